"""Sayings with all and some in front: written, read, and whether they are true."""

from weaklook.corners import corner, need_place
from weaklook.errors import BadSaying, BadText
from weaklook.rests import PRIME, need_prime

WORDS = ("all", "some")
SMALL = "abcdefghijklmnopqrstuvwxyz"
SIGNS = SMALL + " :&|!()"
SIGN_OF = {"or": "|", "and": "&", "not": "!"}
FORM_OF = {"|": "or", "&": "and", "!": "not"}
THINGS_OF = {"name": 2, "not": 2, "and": 3, "or": 3}
BINDS = {"or": 1, "and": 2, "not": 3, "name": 4}
BRACKET_STEPS = {"(": 1, ")": -1}
MOST_NAMES = 4
MOST_SMALL = 6
MOST_PARTS = 24
MOST_DEEP = 6
MOST_TIMES = 4
MOST_BRACKETS = 12


def is_name(thing):
    """Whether it is a name that a saying may have."""
    if not isinstance(thing, str) or thing in WORDS or not 1 <= len(thing) <= MOST_SMALL:
        return False
    return all([sign in SMALL for sign in thing])


def names_in_front(front):
    """The names of a front, in their order."""
    return tuple([name for word, name in front])


def is_turn(pair):
    """Whether it is a pair of all or some and a name."""
    return isinstance(pair, tuple) and len(pair) == 2 and pair[0] in WORDS and is_name(pair[1])


def is_front(front):
    """Whether it is the front of a saying."""
    if not isinstance(front, tuple) or not 1 <= len(front) <= MOST_NAMES:
        return False
    return all([is_turn(pair) for pair in front]) and len(set(names_in_front(front))) == len(front)


def is_formed(body, names):
    """Whether it is formed as a body, without looking at the bodies within it."""
    if not isinstance(body, tuple) or not body or not isinstance(body[0], str):
        return False
    return len(body) == THINGS_OF.get(body[0]) and (body[0] != "name" or body[1] in names)


def is_body(body, names):
    """Whether it is a body of these names, and no greater than a saying's may be."""
    # One by one and not by recursion: what is handed in may be far deeper than a body.
    waiting = [(body, 1)]
    parts = 0
    found = []
    while waiting:
        inner, depth = waiting.pop()
        parts += 1
        if parts > MOST_PARTS or depth > MOST_DEEP or not is_formed(inner, names):
            return False
        if inner[0] == "name":
            found.append(inner[1])
        else:
            waiting.extend([(side, depth + 1) for side in inner[1:]])
    return all([found.count(name) <= MOST_TIMES for name in names])


def need_saying(saying):
    """Refuse what is no saying."""
    if not isinstance(saying, tuple) or len(saying) != 2 or not is_front(saying[0]):
        raise BadSaying("a saying is a pair of a front of all or some with names, and a body")
    if not is_body(saying[1], names_in_front(saying[0])):
        raise BadSaying("the body is none, or is too great")


def need_signs(text):
    """Refuse a text with a sign that no saying has."""
    for at, sign in enumerate(text):
        if sign not in SIGNS:
            raise BadText(at)


def piece_end(text, at):
    """Where the word or sign ends that begins at a place."""
    end = at + 1
    while text[at] in SMALL and end < len(text) and text[end] in SMALL:
        end += 1
    return end


def pieces_of(text):
    """The words and signs of a text with their places, and an empty one at its end."""
    pieces = []
    at = 0
    while at < len(text):
        end = piece_end(text, at)
        if text[at] != " ":
            pieces.append((at, text[at:end]))
        at = end
    # The empty piece can stand nowhere, so where more is wanted it is what is wrong.
    return [*pieces, (len(text), "")]


def read_front(pieces):
    """The front, and how many pieces it takes with its colon."""
    front = []
    taken = 0
    while not front or pieces[taken][1] != ":":
        at, word = pieces[taken]
        if word not in WORDS or len(front) == MOST_NAMES:
            raise BadText(at)
        at, name = pieces[taken + 1]
        if not is_name(name) or name in names_in_front(front):
            raise BadText(at)
        front.append((word, name))
        taken += 2
    return tuple(front), taken + 1


def may_stand(piece, behind_body, within, names):
    """Whether the piece may stand behind a body, or else where one begins, within so many brackets."""
    if behind_body:
        return piece in ("&", "|") or (piece == ")" and within > 0)
    return piece in names or piece == "!" or (piece == "(" and within < MOST_BRACKETS)


def join_bodies(bodies, signs, least):
    """Join the last bodies by the last signs, down to a bracket or a sign that binds less than the least."""
    while signs and signs[-1] != "(" and BINDS[FORM_OF[signs[-1]]] >= least:
        form = FORM_OF[signs.pop()]
        last = bodies.pop()
        if form == "not":
            bodies.append((form, last))
        else:
            first = bodies.pop()
            bodies.append((form, first, last))


def take_piece(piece, bodies, signs):
    """Put a name with the bodies, a sign with the signs, and join what is done."""
    if piece in ("&", "|"):
        join_bodies(bodies, signs, BINDS[FORM_OF[piece]])
    if piece in ("&", "|", "!", "("):
        signs.append(piece)
    elif piece == ")":
        join_bodies(bodies, signs, 0)
        signs.pop()
    else:
        bodies.append(("name", piece))


def read_body(pieces, names):
    """The body that these pieces write, however great it is."""
    bodies = []
    signs = []
    behind_body = False
    within = 0
    for at, piece in pieces[:-1]:
        if not may_stand(piece, behind_body, within, names):
            raise BadText(at)
        take_piece(piece, bodies, signs)
        within += BRACKET_STEPS.get(piece, 0)
        behind_body = piece in names or piece == ")"
    if not behind_body or within > 0:
        raise BadText(pieces[-1][0])
    join_bodies(bodies, signs, 0)
    return bodies[0]


def bracketed(body, least):
    """The body as written beside a sign, in brackets where it binds less than the least."""
    written = body_text(body)
    return written if BINDS[body[0]] >= least else f"({written})"


def body_text(body):
    """The body as written."""
    if body[0] == "name":
        return body[1]
    sign = SIGN_OF[body[0]]
    own = BINDS[body[0]]
    if body[0] == "not":
        return sign + bracketed(body[1], own)
    # Of like signs the first is done first, so at the second side its own sign needs brackets, too.
    return f"{bracketed(body[1], own)} {sign} {bracketed(body[2], own + 1)}"


def names_in_body(body):
    """The names of a body, each as often as it stands there."""
    if body[0] == "name":
        return [body[1]]
    return [name for inner in body[1:] for name in names_in_body(inner)]


def body_worth_by(body, known, prime):
    """The body's worth of the rests that are known for its names, without looking at what is handed in."""
    if body[0] == "name":
        return known[body[1]]
    first = body_worth_by(body[1], known, prime)
    if body[0] == "not":
        return (1 - first) % prime
    second = body_worth_by(body[2], known, prime)
    both = first * second
    return (both if body[0] == "and" else first + second - both) % prime


def body_table(saying):
    """The table, over the corners of all names, of whether the body holds there (1 or 0)."""
    names = names_in_front(saying[0])
    corners = [corner(number, len(names)) for number in range(1 << len(names))]
    return [body_worth_by(saying[1], dict(zip(names, figures)), PRIME) for figures in corners]


def all_or_some(word, low, high, prime):
    """What the word makes of two worths: for all their product, for some their sum less it."""
    both = low * high
    return (both if word == "all" else low + high - both) % prime


def shortened(table, word):
    """The table, over corners of one name less, of whether it holds for all or some of the last name."""
    # The last name is the last figure of a corner, so what it parts stands side by side.
    return [all_or_some(word, low, high, PRIME) for low, high in zip(table[::2], table[1::2])]


def front_tables(saying):
    """For each name the table, over corners of the names up to it, of whether the front behind it holds."""
    tables = [body_table(saying)]
    for word, name in saying[0][:0:-1]:
        tables.append(shortened(tables[-1], word))
    return tables[::-1]


def read_saying(text):
    """The saying that the text writes."""
    need_signs(text)
    pieces = pieces_of(text)
    front, taken = read_front(pieces)
    names = names_in_front(front)
    body = read_body(pieces[taken:], names)
    if not is_body(body, names):
        raise BadText(0)
    return (front, body)


def saying_text(saying):
    """The saying as written."""
    need_saying(saying)
    front, body = saying
    words = " ".join([f"{word} {name}" for word, name in front])
    return f"{words} : {body_text(body)}"


def names_of(saying):
    """The names of the saying, by its front."""
    need_saying(saying)
    return names_in_front(saying[0])


def degrees(saying):
    """How often each name of the front stands in the body."""
    need_saying(saying)
    found = names_in_body(saying[1])
    return tuple([found.count(name) for name in names_in_front(saying[0])])


def truth(saying):
    """Whether the saying is true."""
    need_saying(saying)
    word = saying[0][0][0]
    return shortened(front_tables(saying)[0], word) == [1]


def body_worth(saying, place, *, prime=PRIME):
    """The worth of the saying's body at a place that has a rest for each name of the front."""
    need_prime(prime)
    need_saying(saying)
    names = names_in_front(saying[0])
    need_place(place, len(names), prime)
    return body_worth_by(saying[1], dict(zip(names, place)), prime)
