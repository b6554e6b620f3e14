import copy
import itertools
import random
import unittest
from fractions import Fraction

from weaklook.errors import TooMany
from weaklook.games import best
from weaklook.questions import coins_of, course, is_true, opening_of, roads_question, saying_question
from weaklook.shares import counted, share
from weaklook.tongue import read_saying
from tests.helping import Checks, signature
from tests.slow_talk import SlowTalk, some_product, some_roads


def forked(slow, coins):
    """A talk that stands as this one, with other coins to come."""
    found = copy.copy(slow)
    for name in ("told", "claims", "abouts", "middle", "turns", "place"):
        if hasattr(slow, name):
            setattr(found, name, copy.copy(getattr(slow, name)))
    found.left = list(coins)
    return found


def slow_greatest(slow):
    """The search of the document's words, with nothing kept from one way to another."""
    if slow.stand != "on":
        return int(slow.stand == "yes")
    word, many = slow.awaits()
    found = 0
    for letter in itertools.product(range(slow.prime), repeat=many):
        if slow.claim_of(letter) == slow.claims[-1]:
            total = 0
            for coin in range(1 if word == "split" else slow.prime):
                behind = forked(slow, [coin])
                behind.hear(letter)
                total += slow_greatest(behind)
            found = max(found, total)
    return found


def slow_best(question):
    prime = question[1]
    openings = itertools.product(range(prime), repeat=opening_of(question))
    return sum(slow_greatest(SlowTalk(question, list(opening))) for opening in openings), prime ** coins_of(question)


def ways(question):
    return question[1] ** (coins_of(question) + sum(many - 1 for word, many in course(question)))


def some_webs(many, seed):
    """Small webs with right claims and wrong ones."""
    chance = random.Random(seed)
    for turn in range(many):
        prime, side, length = chance.choice(((3, 2, 2), (3, 2, 3), (5, 2, 2), (3, 4, 2), (3, 2, 1), (7, 4, 1)))
        web = [[chance.randrange(prime) for column in range(side)] for row in range(side)]
        start, goal = chance.randrange(side), chance.randrange(side)
        yield roads_question(web, length, start, goal, chance.randrange(prime), prime=prime)


def some_words():
    """Sayings of one name of each degree that is small enough."""
    for word, body, prime, claim in itertools.product(
            ("all", "some"), ("x", "!x", "x & !x", "x | !x", "!(x & x)", "x & x & !x"), (3, 5), (0, 1)):
        saying = read_saying(f"{word} x : {body}")
        if body.count("x") < prime:
            question = saying_question(saying, claim, prime=prime)
            if ways(question) <= 4000:
                yield question


class Interface(unittest.TestCase):
    def test_names(self):
        self.assertEqual(signature(best), [("question", "place", None)])
        question = some_roads(2, 3, 2, 1)
        self.assertEqual(best(question=question), best(question))


class Best(Checks, unittest.TestCase):
    def test_products_are_let_by_at_their_share(self):
        for (side, prime), wrong, seed in itertools.product(((2, 3), (2, 5), (2, 7)), (0, 1, 2, 3, 4), (1, 2)):
            question = some_product(side, prime, wrong, seed)
            rows = prime ** coins_of(question)
            over, under = share(question)
            self.assertEqual(over * rows % under, 0)
            self.tells((over * rows // under, rows), best, question)

    def test_products_against_the_search(self):
        for wrong in (0, 1, 2):
            question = some_product(2, 3, wrong)
            self.tells(slow_best(question), best, question)

    def test_webs_against_the_search(self):
        found = set()
        for question in some_webs(30, 31):
            self.tells(slow_best(question), best, question)
            found.add(is_true(question))
        self.assertEqual(found, {True, False})

    def test_sayings_against_the_search(self):
        for question in some_words():
            self.tells(slow_best(question), best, question)

    def test_beside_the_share_and_the_told_liar(self):
        beyond = 0
        for question in itertools.chain(some_webs(60, 32), some_words()):
            found, rows = best(question)
            self.assertEqual(rows, question[1] ** coins_of(question))
            self.assertGreaterEqual(found, counted(question)[0])
            if is_true(question):
                self.assertEqual(found, rows)
            else:
                self.assertLessEqual(Fraction(found, rows), Fraction(*share(question)))
                beyond += found > counted(question)[0]
        self.assertGreater(beyond, 0)

    def test_roads_of_one_step(self):
        web = [[3, 4], [5, 6]]
        self.tells((1, 1), best, roads_question(web, 1, 0, 1, 4, prime=7))
        self.tells((0, 1), best, roads_question(web, 1, 0, 1, 3, prime=7))
        # However great the web is, there is nothing to go through.
        self.tells((1, 1), best, some_roads(8, 61, 1))

    def test_too_many_ways(self):
        few = (some_product(2, 7, 1), some_roads(2, 11, 2, 1), some_roads(2, 3, 3), some_roads(4, 3, 2, 1),
               saying_question(read_saying("all x : x"), 1, prime=11),
               saying_question(read_saying("some x : x & x"), 1, prime=7),
               saying_question(read_saying("some x : x & x & x"), 0, prime=5))
        many = (some_product(2, 11), some_product(4, 3, 1), some_roads(2, 13, 2), some_roads(2, 5, 3),
                some_roads(2, 3, 4), some_roads(4, 5, 2), some_roads(8, 3, 2, 1), some_roads(8, 61, 8),
                saying_question(read_saying("all x : x"), 1, prime=13),
                saying_question(read_saying("some x : x & x"), 1, prime=11),
                saying_question(read_saying("some x : x & x & x"), 0, prime=7),
                saying_question(read_saying("some x : x & x & (x | x)"), 0, prime=5),
                saying_question(read_saying("some x all y : x"), 1, prime=3))
        self.assertEqual(sorted(map(ways, few)), [2187, 6561, 14641, 14641, 15625, 16807, 16807])
        for question in few:
            self.assertEqual(best(question)[1], question[1] ** coins_of(question))
        self.assertEqual(min(map(ways, many)), 28561)
        for question in many:
            self.refuses(TooMany, best, question)


if __name__ == "__main__":
    unittest.main()
