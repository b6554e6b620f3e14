"""Shares: of how many rows of coins a false claim is let by."""

from weaklook.errors import TooMany
from weaklook.questions import coins_of, course, opening_of
from weaklook.rests import all_rows, part, whole_power
from weaklook.squares import alike_by, letters_of_square, need_few_pairs, square_product_by
from weaklook.stances import coins_behind, first_stance, let_by
from weaklook.talker import said_letter

MOST_ROWS = 1500


def rounds_of(length):
    """How often a claim of roads can be halved on its longer way down to one step."""
    # The greater of two shares is that of the half with more rounds, since each takes away a part of what is left.
    if length == 1:
        return 0
    half = length // 2
    return 1 + max(rounds_of(half), rounds_of(length - half))


def caught_at_sums(sums, prime):
    """The part of the coins at which no one of so many sums hides what is wrong, as over and under."""
    return whole_power(prime - 2, sums), whole_power(prime, sums)


def caught_product(question):
    """The part of the rows of coins at which a product's told liar is caught, as over and under."""
    kind, prime, one, other, third = question
    need_few_pairs(one, prime)
    letters = letters_of_square(one)
    pairs = whole_power(prime, 2 * letters)
    unlike = pairs - alike_by(square_product_by(one, other, prime), third, prime)
    over, under = caught_at_sums(letters, prime)
    return unlike * over, pairs * under


def caught_saying(question):
    """The part of the rows of coins at which a false saying is caught at the least, as over and under."""
    prime = question[1]
    over = under = 1
    for word, many in course(question):
        # A line has one degree less than rests.
        over *= prime - (many - 1)
        under *= prime
    return over, under


def share(question):
    """The share of all rows of coins at which a false claim is let by at the most, as a part."""
    if question[0] == "product":
        over, under = caught_product(question)
    elif question[0] == "roads":
        over, under = caught_at_sums(letters_of_square(question[2]) * rounds_of(question[3]), question[1])
    else:
        over, under = caught_saying(question)
    return part(under - over, under)


def rows_let_by(stance):
    """At how many rows of the coins to come the told liar is let by."""
    if stance.standing != "on":
        # Yes is said behind the last coin alone, and behind no there is nothing to count.
        return 1 if stance.standing == "yes" else 0
    letter = said_letter(stance, True)
    told = all_rows(coins_behind(stance), stance.scene.prime)
    return sum([rows_let_by(let_by(stance, letter, coins)) for coins in told])


def counted(question):
    """The rows of coins at which the told liar is let by, and all rows."""
    prime = question[1]
    rows = whole_power(prime, coins_of(question))
    if rows > MOST_ROWS:
        raise TooMany(f"there are {rows} rows of coins, more than {MOST_ROWS}")
    openings = all_rows(opening_of(question), prime)
    return (sum([rows_let_by(first_stance(question, opening)) for opening in openings]), rows)
