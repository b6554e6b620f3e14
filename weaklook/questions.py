"""Questions: what a talker claims, whether it is so, and what a looker awaits of it."""

from weaklook.errors import BadQuestion, BadSaying
from weaklook.rests import PRIME, is_number, is_rest, need_prime
from weaklook.squares import letters_of_square, need_squares, raised_by, square_product_by
from weaklook.tongue import degrees, truth

MOST_LENGTH = 8
INNER_DEGREE = 2
SUM = ("sum", 3)
SPLIT = ("split", 2)


def frozen(square):
    """The square as a tuple of tuples, which no later change of the lists reaches."""
    return tuple([tuple(row) for row in square])


def is_place_of(thing, square):
    """Whether it is the number of a row of the square."""
    return is_number(thing) and 0 <= thing < len(square)


def product_question(one, other, third, *, prime=PRIME):
    """The question whether the third square is the product of the first two."""
    need_squares([one, other, third], prime)
    return ("product", prime, frozen(one), frozen(other), frozen(third))


def roads_question(web, length, start, goal, claim, *, prime=PRIME):
    """The question whether the web's power of the length has the claim at row start, column goal."""
    need_squares([web], prime)
    if not is_number(length) or not 1 <= length <= MOST_LENGTH:
        raise BadQuestion(f"the length is 1 to {MOST_LENGTH}")
    if not is_place_of(start, web) or not is_place_of(goal, web):
        raise BadQuestion(f"start and goal are 0 to {len(web) - 1}")
    if not is_rest(claim, prime):
        raise BadQuestion(f"the claim is a rest by {prime}")
    return ("roads", prime, frozen(web), length, start, goal, claim)


def saying_question(saying, claim, *, prime=PRIME):
    """The question whether the saying is true (claim 1) or false (claim 0)."""
    need_prime(prime)
    if any([degree >= prime for degree in degrees(saying)]):
        raise BadSaying(f"a name stands {prime} times or more in the body")
    if not is_number(claim) or not 0 <= claim <= 1:
        raise BadQuestion("the claim is 0 or 1")
    return ("saying", prime, saying, claim)


def is_true(question):
    """Whether what the question claims is so."""
    if question[0] == "product":
        kind, prime, one, other, third = question
        return frozen(square_product_by(one, other, prime)) == third
    if question[0] == "roads":
        kind, prime, web, length, start, goal, claim = question
        return raised_by(web, length, prime)[start][goal] == claim
    kind, prime, saying, claim = question
    return truth(saying) == (claim == 1)


def roads_course(letters, length):
    """The letters that are awaited for a claim of this length."""
    if length == 1:
        return []
    half = length // 2
    # Of the two claims behind a split that of the first half is the last one, so it is looked at first.
    return [SUM] * letters + [SPLIT] + roads_course(letters, half) + roads_course(letters, length - half)


def saying_course(saying):
    """The letters that are awaited for a saying: each word, and behind it a mend of each name so far."""
    front = saying[0]
    turns = []
    for at, (word, name) in enumerate(front):
        is_last = at == len(front) - 1
        mended = degrees(saying) if is_last else [INNER_DEGREE] * (at + 1)
        turns.append((word, 2))
        turns.extend([("mend", degree + 1) for degree in mended])
    return turns


def course(question):
    """The list of all letters that a looker who never says no awaits, as (word, many)."""
    if question[0] == "product":
        return [SUM] * letters_of_square(question[2])
    if question[0] == "roads":
        return roads_course(letters_of_square(question[2]), question[3])
    return saying_course(question[2])


def opening_of(question):
    """How many coins a looker takes ahead of the first letter: those of a product's two places."""
    return 2 * letters_of_square(question[2]) if question[0] == "product" else 0


def coins_of(question):
    """How many coins a looker takes: one behind each line, and those of a product's two places."""
    lines = [word for word, many in course(question) if word != "split"]
    return len(lines) + opening_of(question)
