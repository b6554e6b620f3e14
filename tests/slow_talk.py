"""A talk straight from the words of the document, slow and plain, to hold the program against."""

import itertools
import random

from weaklook.questions import product_question, roads_question, saying_question
from weaklook.tongue import read_saying
from tests.test_squares import SIDES, changed, slow_product, slow_weight, slow_worth, some_square
from tests.test_tongue import leaves, slow_body_worth, slow_truth, some_sayings


def at_rest(line, at, prime):
    return sum(thing * at ** many for many, thing in enumerate(line)) % prime


def corners(many):
    return list(itertools.product((0, 1), repeat=many))


def joined(word, a, b):
    return a * b if word == "all" else a + b - a * b


def over(one, other, prime):
    """One over another rest, by going through all rests."""
    return next(found for found in range(prime) if (found * other - one) % prime == 0)


def slow_power(web, length, prime):
    found = web
    for step in range(length - 1):
        found = slow_product(found, web, prime)
    return found


class SlowTalk:
    """What a looker and a talker of the question know, by lists and dicts that are changed as the talk goes on."""

    def __init__(self, question, coins):
        self.kind, self.prime = question[:2]
        self.question = question
        self.left = list(coins)
        self.told, self.heard, self.stand = [], 0, "on"
        if self.kind == "product":
            letters = SIDES[len(question[2])]
            self.told = [self.left.pop(0) for coin in range(2 * letters)]
            rows, columns = self.told[:letters], self.told[letters:]
            self.claims = [slow_worth(question[4], rows, columns, self.prime)]
            self.abouts = [(question[2], question[3], rows, columns)]
            self.middle, self.letters = [], letters
        elif self.kind == "roads":
            self.letters = SIDES[len(question[2])]
            self.claims = [question[6]]
            self.abouts = [(question[3], corners(self.letters)[question[4]], corners(self.letters)[question[5]])]
            self.middle = []
        else:
            (self.front, self.body), claim = question[2:]
            self.claims, self.place = [claim], {}
            self.names = [name for word, name in self.front]
            found = leaves(self.body)
            self.turns = []
            for at, (word, name) in enumerate(self.front):
                self.turns.append((word, at, 1))
                for mended in range(at + 1):
                    last = at == len(self.front) - 1
                    self.turns.append(("mend", mended, found.count(self.names[mended]) if last else 2, at))
        self.look()

    # The looker's side.

    def awaits(self):
        if self.stand != "on":
            return None
        if self.kind == "saying":
            return (self.turns[0][0], self.turns[0][2] + 1)
        return ("sum", 3) if len(self.middle) < self.letters else ("split", 2)

    def read_worth(self):
        """What the last claim must be where it is read now, else None."""
        if self.kind == "saying":
            return None if self.turns else slow_body_worth(self.body, self.place) % self.prime
        if self.kind == "product":
            if len(self.middle) < self.letters:
                return None
            one, other, rows, columns = self.abouts[-1]
            ahead = slow_worth(one, rows, self.middle, self.prime)
            return ahead * slow_worth(other, self.middle, columns, self.prime) % self.prime
        length, rows, columns = self.abouts[-1]
        return slow_worth(self.question[2], rows, columns, self.prime) if length == 1 else None

    def look(self):
        while self.claims and self.read_worth() is not None:
            if self.read_worth() != self.claims[-1]:
                self.stand = "no"
                return
            self.claims.pop()
            if self.kind == "roads":
                self.abouts.pop()
        if not self.claims:
            self.stand = "yes"

    def claim_of(self, letter):
        """The claim by which the letter would be right."""
        word = self.awaits()[0]
        if word == "split":
            return letter[0] * letter[1] % self.prime
        low, high = at_rest(letter, 0, self.prime), at_rest(letter, 1, self.prime)
        if word == "sum":
            return (low + high) % self.prime
        if word == "mend":
            return ((1 - self.old()) * low + self.old() * high) % self.prime
        return joined(word, low, high) % self.prime

    def old(self):
        return self.place[self.names[self.turns[0][1]]]

    def hear(self, letter, *, let_by=False):
        """The coins told behind the letter; let_by where it is taken for right."""
        self.heard += 1
        if not let_by and self.claim_of(letter) != self.claims[-1]:
            self.stand = "no"
            return ()
        self.claims.pop()
        if self.awaits()[0] == "split":
            length, rows, columns = self.abouts.pop()
            self.abouts += [(length - length // 2, self.middle, columns), (length // 2, rows, self.middle)]
            self.claims += [letter[1], letter[0]]
            self.middle = []
            self.look()
            return ()
        coin = self.left.pop(0)
        self.told.append(coin)
        self.claims.append(at_rest(letter, coin, self.prime))
        if self.kind == "saying":
            self.place[self.names[self.turns.pop(0)[1]]] = coin
        else:
            self.middle = self.middle + [coin]
        self.look()
        return (coin,)

    # The talker's side: what things ought to be, by sums over all corners.

    def spread(self, many, place):
        """The worth, at the place, of the table of whether the front behind the first so many names holds."""
        return sum(
            slow_weight(figures, place)
            * slow_truth(self.front[many:], self.body, dict(zip(self.names, map(bool, figures))))
            for figures in corners(many)
        )

    def worth_to_mend(self, at, place):
        if at == len(self.front) - 1:
            return slow_body_worth(self.body, dict(zip(self.names, place)))
        return joined(self.front[at + 1][0], self.spread(at + 2, [*place, 0]), self.spread(at + 2, [*place, 1]))

    def both(self):
        """The two squares, and the places ahead of and behind the one between them, of the last claim."""
        if self.kind == "product":
            return self.abouts[-1]
        length, rows, columns = self.abouts[-1]
        web = self.question[2]
        powers = [slow_power(web, many, self.prime) for many in (length // 2, length - length // 2)]
        return (*powers, rows, columns)

    def ought_at(self, t):
        """What the awaited line ought to have at t."""
        if self.kind != "saying":
            one, other, rows, columns = self.both()
            wanted = 0
            for figures in corners(self.letters - len(self.middle) - 1):
                middle = [*self.middle, t, *figures]
                wanted += slow_worth(one, rows, middle, self.prime) * slow_worth(other, middle, columns, self.prime)
            return wanted % self.prime
        place = [self.place[name] for name in self.names if name in self.place]
        if self.turns[0][0] != "mend":
            return self.spread(len(place) + 1, [*place, t]) % self.prime
        mended, at = self.turns[0][1], self.turns[0][3]
        return sum(
            slow_weight(figures, place[mended + 1:]) * self.worth_to_mend(at, [*place[:mended], t, *figures])
            for figures in corners(at - mended)
        ) % self.prime

    def ought(self):
        """What the last claim ought to be."""
        if self.kind != "saying":
            one, other, rows, columns = self.both()
            return sum(
                slow_worth(one, rows, [*self.middle, *figures], self.prime)
                * slow_worth(other, [*self.middle, *figures], columns, self.prime)
                for figures in corners(self.letters - len(self.middle))
            ) % self.prime
        place = [self.place[name] for name in self.names if name in self.place]
        if self.turns[0][0] != "mend":
            if not place:
                return int(slow_truth(self.front, self.body, {}))
            return self.worth_to_mend(len(place) - 1, place) % self.prime
        mended, at = self.turns[0][1], self.turns[0][3]
        return sum(
            slow_weight(figures, place[mended:]) * self.worth_to_mend(at, [*place[:mended], *figures])
            for figures in corners(at - mended + 1)
        ) % self.prime

    def true_pair(self):
        """What a split ought to be."""
        one, other, rows, columns = self.both()
        return (slow_worth(one, rows, self.middle, self.prime), slow_worth(other, self.middle, columns, self.prime))

    # The told liar.

    def lie_from(self, letter):
        """The told liar's letter, from the true one; and the name of the case."""
        word, many = self.awaits()
        prime, claim = self.prime, self.claims[-1]
        w = (claim - self.ought()) % prime
        if w == 0:
            return letter, "true"
        if word == "sum":
            return self.bent(letter, [0, 2 * w, -w]), "sum"
        if word == "mend" and many == 1:
            return self.bent(letter, [w]), "mend 0"
        if word == "mend":
            c = self.old()
            z = 1 if c == 0 else 0
            scale = over(w, c - z, prime)
            return self.bent(letter, [-z * scale, scale]), "mend nought" if c == 0 else "mend"
        if word == "split":
            (a, b), case = self.pair(*letter, claim)
            return (a, b), f"split {case}"
        low, high = at_rest(letter, 0, prime), at_rest(letter, 1, prime)
        if word == "all":
            (a, b), case = self.pair(low, high, claim)
        else:
            (a, b), case = self.pair((1 - low) % prime, (1 - high) % prime, (1 - claim) % prime)
            a, b = (1 - a) % prime, (1 - b) % prime
        return (a, (b - a) % prime), f"{word} {case}"

    def bent(self, letter, more):
        more = more + [0] * (len(letter) - len(more))
        return tuple((one + other) % self.prime for one, other in zip(letter, more))

    def pair(self, a, b, claim):
        if a:
            return (a, over(claim, a, self.prime)), "first"
        if b:
            return (over(claim, b, self.prime), b), "second"
        return (1, claim), "none"

    # Letters that are right by the last claim, whatever else they are.

    def right_letter(self, chance):
        word, many = self.awaits()
        prime, claim = self.prime, self.claims[-1]
        line = [chance.randrange(prime) for thing in range(many)]
        if word == "sum":
            line[1] = (claim - 2 * line[0] - line[2]) % prime
        elif word == "mend":
            line[0] = (claim - self.old() * sum(line[1:])) % prime
        elif word == "split":
            line[0] = chance.randrange(1, prime)
            line[1] = over(claim, line[0], prime)
        elif word == "all":
            line[0] = chance.randrange(1, prime)
            line[1] = (over(claim, line[0], prime) - line[0]) % prime
        else:
            line[0] = chance.choice([rest for rest in range(prime) if rest != 1])
            line[1] = (over(claim - line[0], 1 - line[0], prime) - line[0]) % prime
        return line


# Questions to ask in many tests.

def some_product(side, prime, wrong=0, seed=1):
    """A product's question with so many things of the third square wrong."""
    one, other = some_square(side, 1 + seed, prime), some_square(side, 4 + seed, prime)
    third = slow_product(one, other, prime)
    for at in range(wrong):
        row, column = at * 3 % side, (at * 5 + at // side) % side
        third = changed(third, row, column, (third[row][column] + 1 + at) % prime)
    return product_question(one, other, third, prime=prime)


def some_roads(side, prime, length, wrong=0, seed=1):
    """A question of roads whose claim is too great by so much."""
    web = some_square(side, 2 + seed, prime)
    start, goal = seed % side, (3 * seed + 1) % side
    claim = (slow_power(web, length, prime)[start][goal] + wrong) % prime
    return roads_question(web, length, start, goal, claim, prime=prime)


SAYINGS = (
    "all x : x", "some x : x", "all x : x | !x", "some x : x & !x", "all x : x & x & x", "some x : (x | !x) & x & !x",
    "all x some y : x & y | !x & !y", "some x all y : x & y | !x & !y", "all x all y : y", "some y some x : x",
    "some x all y : x | x & y | x & !y | !x", "all y some x : !(x & y) & (x | y) & (x | !y)",
    "all x some y all z : x & z | !x & !z | y", "some a all b some c : a & !b | c", "all a all b all c : a | b | c",
    "some a some b some c : c", "all a some b some c : b & b & (b & b) | a & !a",
    "all a some b all c some d : (a | b) & (c | d)", "some a all b some c all d : a & !b | c & d | a & b & !c",
    "all a all b all c all d : !(a & b & c & d)", "some a some b some c some d : d & !d | c",
    "some a some b all c all d : a & a & (a & a) | b & b & (b & b) | (c | c | (d | d))",
)


def fits(saying, prime):
    return all(leaves(saying[1]).count(name) < prime for word, name in saying[0])


def some_saying_questions(primes, seed, many):
    """Sayings of one to four names with both claims, by several primes."""
    sayings = [read_saying(text) for text in SAYINGS] + some_sayings(many, seed)
    for at, saying in enumerate(sayings):
        prime = primes[at % len(primes)]
        if not fits(saying, prime):
            prime = max(primes)
        for claim in (0, 1):
            yield saying_question(saying, claim, prime=prime)


def some_questions(*, primes=(3, 7, 31, 61), seed=1, sayings=20):
    """Questions of each kind: squares of each size, lengths 1 to 8, one to four names; true ones and false ones."""
    for side, prime, wrong in itertools.product(SIDES, primes, (0, 1, 3)):
        yield some_product(side, prime, wrong, seed)
    for at, (side, length, wrong) in enumerate(itertools.product(SIDES, range(1, 9), (0, 1, 2))):
        yield some_roads(side, primes[(at + at // 3) % len(primes)], length, wrong, seed + at)
    yield from some_saying_questions(primes, seed, sayings)


def some_coins(question, many, seed=1):
    """So many coins by a seeded chance, noughts and ones more often than else."""
    chance = random.Random(f"{seed} {many} {question[0]} {question[1]}")
    return [chance.choice((0, 1, chance.randrange(question[1]), chance.randrange(question[1]))) for coin in range(many)]
