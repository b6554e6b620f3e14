"""Pages: a hall as a text, three rows for each talk, and the hall that a text writes."""

from weaklook.errors import BadPage, BadQuestion, BadRest, BadSaying, BadSquare, HallError, LookError
from weaklook.hall import MOST_TALKS, hall_of, is_talk_name
from weaklook.questions import product_question, roads_question, saying_question
from weaklook.squares import SIDES
from weaklook.talks import first_talk, talk_behind
from weaklook.tongue import read_saying, saying_text

FIGURES = "0123456789"
MOST_FIGURES = 30
ROADS_NUMBERS = 5
ROWS_OF_TALK = 3


def row_text(word, things):
    """A word and what stands behind it, with one blank between."""
    return " ".join([word] + [str(thing) for thing in things])


def things_of(squares):
    """All things of the squares, row by row."""
    return [thing for square in squares for row in square for thing in row]


def question_text(question):
    """The question as written on a page."""
    kind, prime = question[0], question[1]
    if kind == "saying":
        return row_text(kind, [prime, question[3], saying_text(question[2])])
    if kind == "roads":
        return row_text(kind, [prime] + list(question[3:]) + things_of([question[2]]))
    return row_text(kind, [prime] + things_of(question[2:]))


def letters_row(letters):
    """The row of the letters, with a stroke between each and the next."""
    things = []
    for at, letter in enumerate(letters):
        if at > 0:
            things.append("/")
        things.extend(letter)
    return row_text("letters", things)


def talk_rows(hall, name):
    """The three rows of a talk."""
    letters, coins = hall.paper(name)
    return [
        row_text("talk", [name, question_text(hall.question(name))]),
        row_text("coins", coins),
        letters_row(letters),
    ]


def page(hall):
    """The hall as a text."""
    rows = [row for name in hall.names() for row in talk_rows(hall, name)]
    return "".join([f"{row}\n" for row in rows])


def is_plain_number(word):
    """Whether the word is a number as it is written plainly."""
    if not 1 <= len(word) <= MOST_FIGURES or not all([sign in FIGURES for sign in word]):
        return False
    return word == "0" or word[0] != "0"


def numbers_in(words):
    """The numbers that the words write."""
    if not all([is_plain_number(word) for word in words]):
        raise BadRest("a number isn't written plainly")
    return [int(word) for word in words]


def square_in(things):
    """The square whose things stand row by row."""
    for side in SIDES:
        if len(things) == side * side:
            return [things[side * row:side * row + side] for row in range(side)]
    raise BadSquare(f"no square has {len(things)} things")


def read_product(words):
    """The question of a product from what stands behind its word."""
    prime, *things = numbers_in(words)
    many = len(things) // 3
    squares = [square_in(side) for side in (things[:many], things[many:2 * many], things[2 * many:])]
    return product_question(squares[0], squares[1], squares[2], prime=prime)


def read_roads(words):
    """The question of roads from what stands behind its word."""
    numbers = numbers_in(words)
    if len(numbers) < ROADS_NUMBERS:
        raise BadQuestion("a number lacks")
    prime, length, start, goal, claim = numbers[:ROADS_NUMBERS]
    return roads_question(square_in(numbers[ROADS_NUMBERS:]), length, start, goal, claim, prime=prime)


def read_saying_question(words):
    """The question of a saying from what stands behind its word."""
    text = " ".join(words[2:])
    saying = read_saying(text)
    if saying_text(saying) != text:
        raise BadSaying("the saying isn't written as it ought to be")
    # No saying is written by an empty text, so here both numbers stand ahead of it.
    prime, claim = numbers_in(words[:2])
    return saying_question(saying, claim, prime=prime)


def read_question(kind, words):
    """The question that the words behind its kind write."""
    if not words:
        raise BadQuestion("a number lacks")
    if kind == "product":
        return read_product(words)
    if kind == "roads":
        return read_roads(words)
    if kind == "saying":
        return read_saying_question(words)
    raise BadQuestion(f"no question begins with {kind}")


def words_behind(rows, at, word):
    """What stands behind the word that the row begins with."""
    # Behind the last line feed there is no whole row.
    if at >= len(rows) - 1:
        raise BadPage(at)
    words = rows[at].split(" ")
    if words[0] != word:
        raise BadPage(at)
    return words[1:]


def read_head(rows, at, talks):
    """A talk's name and question from its first row, behind the talks that are read already."""
    words = words_behind(rows, at, "talk")
    if len(talks) == MOST_TALKS or len(words) < 2 or not is_talk_name(words[0]):
        raise BadPage(at)
    if any([other >= words[0] for other in talks]):
        raise BadPage(at)
    try:
        return words[0], read_question(words[1], words[2:])
    except LookError:
        raise BadPage(at) from None


def read_coins(rows, at, question):
    """The talk ahead of its letters from its second row."""
    words = words_behind(rows, at, "coins")
    try:
        return first_talk(question, numbers_in(words))
    except LookError:
        raise BadPage(at) from None


def letters_in(words):
    """The letters that the words write, with strokes between."""
    letters = [[]] if words else []
    for word in words:
        if word == "/":
            letters.append([])
        else:
            letters[-1].append(word)
    return [numbers_in(letter) for letter in letters]


def read_letters(rows, at, talk):
    """The talk behind the letters of its third row."""
    words = words_behind(rows, at, "letters")
    try:
        for letter in letters_in(words):
            talk = talk_behind(talk, letter)
    except (LookError, HallError):
        raise BadPage(at) from None
    return talk


def read_page(text):
    """The hall that the text writes."""
    rows = text.split("\n")
    talks = {}
    at = 0
    while at < len(rows) - 1 or rows[at] != "":
        name, question = read_head(rows, at, talks)
        talks[name] = read_letters(rows, at + 2, read_coins(rows, at + 1, question))
        at += ROWS_OF_TALK
    return hall_of(talks)
