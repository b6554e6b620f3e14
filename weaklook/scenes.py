"""Where a talk stands but for its claims: what is awaited or read next, and what the true talker says there.

Each of the three scenes has the same methods, and none of them changes it: `turn` is the awaited (word, many), or None
where the last claim is read; `mended` the place's rest for the name that is mended, else nought; `true_letter` what
the true talker says; `after` the scene behind a letter and its coins; `reading` what the last claim must be where it
is read; `read` the scene behind that reading.
"""

from weaklook.corners import corner, folded_through, weights_by
from weaklook.letters import letter_through, sum_letter
from weaklook.questions import SPLIT, SUM, saying_course
from weaklook.squares import carried_by, letters_of_square, row_table_by, square_worth_by, turned
from weaklook.tongue import all_or_some, body_worth_by, front_tables, names_in_front


class ProductScene:
    """A product's sum over places between rows and columns: both squares' tables, folded by the coins so far."""

    def __init__(self, prime, left, right):
        self.prime = prime
        self.left = left
        self.right = right

    def turn(self):
        return SUM if len(self.left) > 1 else None

    def mended(self):
        return 0

    def true_letter(self):
        return sum_letter(self.left, self.right, self.prime)

    def after(self, coins):
        left = folded_through(self.left, coins, self.prime)
        right = folded_through(self.right, coins, self.prime)
        return ProductScene(self.prime, left, right)

    def reading(self):
        return self.left[0] * self.right[0] % self.prime

    def read(self):
        return self


class RoadsScene:
    """What each claim of roads speaks of, as (length, rows, columns), and the coins so far of the last one's sums."""

    def __init__(self, prime, web, spans, middle):
        self.prime = prime
        self.web = web
        self.spans = spans
        self.middle = middle

    def turn(self):
        if self.spans[-1][0] == 1:
            return None
        return SUM if len(self.middle) < letters_of_square(self.web) else SPLIT

    def mended(self):
        return 0

    def true_letter(self):
        length, rows, columns = self.spans[-1]
        half = length // 2
        left = led_along(self.web, rows, half, self.prime)
        right = led_along(turned(self.web), columns, length - half, self.prime)
        left = folded_through(left, self.middle, self.prime)
        right = folded_through(right, self.middle, self.prime)
        if self.turn() == SPLIT:
            return (left[0], right[0])
        return sum_letter(left, right, self.prime)

    def after(self, coins):
        if self.turn() == SUM:
            return RoadsScene(self.prime, self.web, self.spans, self.middle + coins)
        length, rows, columns = self.spans[-1]
        half = length // 2
        halves = ((length - half, self.middle, columns), (half, rows, self.middle))
        return RoadsScene(self.prime, self.web, self.spans[:-1] + halves, ())

    def reading(self):
        length, rows, columns = self.spans[-1]
        return square_worth_by(self.web, rows, columns, self.prime)

    def read(self):
        return RoadsScene(self.prime, self.web, self.spans[:-1], ())


class SayingScene:
    """The turns to come of a saying; level is the name whose word came last or comes now, and step is 0 at that word,
    else the number, from 1, of the name that is mended behind it."""

    def __init__(self, prime, saying, turns, level, step, place):
        self.prime = prime
        self.saying = saying
        self.turns = turns
        self.level = level
        self.step = step
        self.place = place

    def turn(self):
        return self.turns[0] if self.turns else None

    def mended(self):
        return self.place[self.step - 1] if self.step > 0 else 0

    def true_letter(self):
        tables = front_tables(self.saying)
        if self.step == 0:
            return letter_through(folded_through(tables[self.level], self.place, self.prime), self.prime)
        ahead = self.place[:self.step - 1]
        sides = weights_by(self.place[self.step:], self.prime)
        letters = len(self.place) - self.step
        heights = []
        for at in range(self.turn()[1]):
            points = [ahead + (at,) + corner(number, letters) for number in range(len(sides))]
            worths = [self.worth_to_mend(point, tables) for point in points]
            heights.append(sum([side * worth for side, worth in zip(sides, worths)]) % self.prime)
        return letter_through(heights, self.prime)

    def worth_to_mend(self, point, tables):
        """The worth of what is mended behind the last word, at a place of the names up to it."""
        front, body = self.saying
        if self.level == len(front) - 1:
            return body_worth_by(body, dict(zip(names_in_front(front), point)), self.prime)
        low, high = folded_through(tables[self.level + 1], point, self.prime)
        return all_or_some(front[self.level + 1][0], low, high, self.prime)

    def after(self, coins):
        if self.step == 0:
            place = self.place + coins
        else:
            place = self.place[:self.step - 1] + coins + self.place[self.step:]
        level, step = self.level, self.step + 1
        if self.step > self.level:
            level, step = self.level + 1, 0
        return SayingScene(self.prime, self.saying, self.turns[1:], level, step, place)

    def reading(self):
        front, body = self.saying
        return body_worth_by(body, dict(zip(names_in_front(front), self.place)), self.prime)

    def read(self):
        return self


def led_along(web, rows, many, prime):
    """The table over columns of the web's power at the place for rows."""
    # Step by step from one place is far less to reckon than the whole power.
    table = weights_by(rows, prime)
    for step in range(many):
        table = carried_by(web, table, prime)
    return table


def product_scene(question, opening):
    """The scene behind the coins of a product's two places, and the claim there."""
    kind, prime, one, other, third = question
    letters = letters_of_square(third)
    rows, columns = opening[:letters], opening[letters:]
    left = row_table_by(one, rows, prime)
    right = row_table_by(turned(other), columns, prime)
    return ProductScene(prime, left, right), square_worth_by(third, rows, columns, prime)


def first_scene(question, opening):
    """The scene ahead of the first letter, and the first claim."""
    if question[0] == "product":
        return product_scene(question, opening)
    if question[0] == "roads":
        kind, prime, web, length, start, goal, claim = question
        letters = letters_of_square(web)
        span = (length, corner(start, letters), corner(goal, letters))
        return RoadsScene(prime, web, (span,), ()), claim
    kind, prime, saying, claim = question
    return SayingScene(prime, saying, tuple(saying_course(saying)), 0, 0, ()), claim
