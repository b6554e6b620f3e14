import itertools
import unittest
from fractions import Fraction

from weaklook.errors import TooMany
from weaklook.questions import coins_of, course, is_true, roads_question, saying_question
from weaklook.rests import PRIMES
from weaklook.shares import counted, share
from weaklook.tongue import degrees, read_saying
from weaklook.whole import led
from tests.helping import Checks, signature
from tests.slow_talk import SAYINGS, fits, some_product, some_roads
from tests.test_squares import FEW, MANY, SIDES, slow_alike, slow_product
from tests.test_tongue import some_sayings


def as_part(fraction):
    return (fraction.numerator, fraction.denominator)


def product_share(question):
    """Straight from the words, by going through all pairs of places."""
    prime, one, other, third = question[1:]
    s = SIDES[len(one)]
    same = Fraction(slow_alike(slow_product(one, other, prime), third, prime), prime ** (2 * s))
    return same + (1 - same) * (1 - Fraction(prime - 2, prime) ** s)


def roads_share(s, prime, length):
    if length == 1:
        return Fraction(0)
    half = length // 2
    greater = max(roads_share(s, prime, half), roads_share(s, prime, length - half))
    return 1 - Fraction(prime - 2, prime) ** s * (1 - greater)


def saying_share(saying, prime):
    """The degrees of all turns: 1 at words, 2 at mends but the last ones, which have their names' degrees."""
    many = len(saying[0])
    turns = [1] * many + [2] * sum(range(1, many)) + list(degrees(saying))
    caught = Fraction(1)
    for degree in turns:
        caught *= Fraction(prime - degree, prime)
    return 1 - caught


def small_questions(most=729):
    """Questions of each kind, true ones and false ones, with few enough rows of coins to lead them all."""
    for (side, prime), wrong in itertools.product(((2, 3), (2, 5), (2, 7), (4, 3)), (0, 1, 2, 3)):
        yield some_product(side, prime, wrong)
    for side, prime, length, wrong in itertools.product((2, 4, 8), (3, 5, 7, 23), range(1, 9), (0, 1, 2)):
        question = some_roads(side, prime, length, wrong)
        if prime ** coins_of(question) <= most:
            yield question
    for text, prime, claim in itertools.product(SAYINGS, (3, 5, 7, 13), (0, 1)):
        saying = read_saying(text)
        if fits(saying, prime):
            question = saying_question(saying, claim, prime=prime)
            if prime ** coins_of(question) <= most:
                yield question


class Interface(unittest.TestCase):
    def test_names(self):
        for function in (share, counted):
            self.assertEqual(signature(function), [("question", "place", None)])
        question = some_roads(2, 7, 2)
        self.assertEqual(share(question=question), share(question))
        self.assertEqual(counted(question=question), counted(question))


class Shares(Checks, unittest.TestCase):
    def test_products(self):
        for (side, prime), wrong in itertools.product(FEW, (0, 1, 2, 3)):
            question = some_product(side, prime, wrong)
            self.tells(as_part(product_share(question)), share, question)

    def test_true_products(self):
        for side, prime in FEW:
            self.tells((1, 1), share, some_product(side, prime))

    def test_a_product_by_hand(self):
        # One thing wrong, at the first corner: the same at 9 less 4 = 5 of 9 pairs of places; and 2 thirds of the rest.
        self.tells((5 * 3 + 4 * 2, 27), share, some_product(2, 3, wrong=1))

    def test_products_of_too_many_pairs_of_places(self):
        for (side, prime), wrong in itertools.product(MANY, (0, 1)):
            self.refuses(TooMany, share, some_product(side, prime, wrong))
        self.assertIn((2, 47), FEW)
        self.assertIn((2, 53), MANY)

    def test_roads(self):
        for (side, s), prime, length in itertools.product(SIDES.items(), PRIMES, range(1, 9)):
            wanted = as_part(roads_share(s, prime, length))
            web = [[0] * side] * side
            # No claim counts, neither a right one nor a wrong one.
            for claim in (0, 1):
                self.tells(wanted, share, roads_question(web, length, 0, 1, claim, prime=prime))

    def test_roads_by_hand(self):
        web = [[0, 1], [1, 0]]
        for length, wanted in ((1, (0, 1)), (2, (2, 7)), (3, (24, 49)), (4, (24, 49)), (5, (343 - 125, 343)),
                               (8, (343 - 125, 343))):
            self.tells(wanted, share, roads_question(web, length, 0, 0, 0, prime=7))

    def test_sayings(self):
        seen = set()
        for at, saying in enumerate([read_saying(text) for text in SAYINGS] + some_sayings(60, 21)):
            for prime in (3, PRIMES[at % len(PRIMES)], 61):
                if fits(saying, prime):
                    seen.add(len(saying[0]))
                    for claim in (0, 1):
                        question = saying_question(saying, claim, prime=prime)
                        self.tells(as_part(saying_share(saying, prime)), share, question)
        self.assertEqual(seen, {1, 2, 3, 4})

    def test_a_saying_by_hand(self):
        # Words 1 and 1, the mend between 2, the last ones 2 and 0, by 5: 4, 4, 3, 3 and 5 fifths.
        question = saying_question(read_saying("all x some y : x & x"), 1, prime=5)
        self.tells((625 - 144, 625), share, question)


class Counted(Checks, unittest.TestCase):
    def test_against_leading_every_row(self):
        seen = set()
        for question in small_questions():
            prime, many = question[1], coins_of(question)
            rows = list(itertools.product(range(prime), repeat=many))
            wanted = sum(led(question, row, lies=True)[0] == "yes" for row in rows)
            self.tells((wanted, len(rows)), counted, question)
            seen.add((question[0], is_true(question)))
        self.assertEqual(len(seen), 6)

    def test_beside_the_share(self):
        for question in small_questions(1500):
            found, rows = counted(question)
            if is_true(question):
                self.assertEqual(found, rows)
            elif question[0] == "product":
                self.assertEqual(Fraction(found, rows), Fraction(*share(question)))
            else:
                self.assertLessEqual(Fraction(found, rows), Fraction(*share(question)))

    def test_roads_of_one_step(self):
        web = [[3, 4], [5, 6]]
        self.tells((1, 1), counted, roads_question(web, 1, 0, 1, 4, prime=7))
        self.tells((0, 1), counted, roads_question(web, 1, 0, 1, 3, prime=7))

    def test_too_many_rows(self):
        one, two = read_saying("all x : x"), read_saying("all x some y : x | y")
        for question in (some_product(2, 11, 1), some_product(4, 3, 1), some_roads(2, 37, 3, 1), some_roads(2, 3, 7, 1),
                         some_roads(8, 11, 2), saying_question(one, 0, prime=37), saying_question(two, 1, prime=3)):
            self.assertEqual(counted(question)[1], question[1] ** coins_of(question))
        for question in (some_product(2, 13), some_product(4, 5), some_product(8, 3, 1), some_roads(2, 41, 3),
                         some_roads(2, 3, 8, 1), some_roads(8, 13, 2), some_roads(8, 61, 8),
                         saying_question(one, 0, prime=41), saying_question(two, 1, prime=5)):
            self.assertGreater(question[1] ** coins_of(question), 1500)
            self.refuses(TooMany, counted, question)

    def test_asking_changes_nothing(self):
        question = some_roads(4, 3, 3, 1)
        told = counted(question), share(question), course(question)
        self.assertEqual((counted(question), share(question), course(question)), told)


if __name__ == "__main__":
    unittest.main()
