import itertools
import unittest

from weaklook.corners import corner, folded, table_worth, weights
from weaklook.errors import BadPlace, BadPrime, BadRest, BadTable
from weaklook.rests import PRIMES
from tests.helping import GREAT, NO_PRIMES, Checks, places, signature


def some_rests(many, seed, prime):
    return [(seed * seed + 3 * at * seed + at * at + 2) % prime for at in range(many)]


def slow_weights(place, prime):
    """Straight from the words: over all corners, the product over the letters."""
    found = []
    for figures in itertools.product((0, 1), repeat=len(place)):
        weight = 1
        for figure, at in zip(figures, place):
            weight *= at if figure else 1 - at
        found.append(weight % prime)
    return found


def slow_worth(table, place, prime):
    return sum(thing * weight for thing, weight in zip(table, slow_weights(place, prime))) % prime


def wrong_tables(prime):
    """Things that are no tables by the prime: of lengths that are no power of two, too long, no rests."""
    found = [[0] * many for many in range(201) if many not in (1, 2, 4, 8, 16, 32, 64)]
    return found + [[prime], (prime, 0), [0, -1], [0, 0, 0, GREAT], (-GREAT,), [0] * 63 + [prime], [True], (0, False)]


def wrong_places(letters, prime):
    """Things that are no places of so many letters by the prime."""
    found = [[0] * many for many in (0, 1, 2, 3, 4, 5, 6, 7, 8, 64, 200) if many != letters]
    if letters:
        for wrong in (prime, -1, GREAT, -GREAT, True):
            found.append([0] * (letters - 1) + [wrong])
            found.append((wrong,) + (0,) * (letters - 1))
    return found


class Signatures(unittest.TestCase):
    def test_names_and_stars(self):
        self.assertEqual(signature(corner), [("number", "place", None), ("letters", "place", None)])
        self.assertEqual(signature(weights), places("place"))
        self.assertEqual(signature(table_worth), places("table", "place"))
        self.assertEqual(signature(folded), places("table", "at"))

    def test_by_name(self):
        self.assertEqual(corner(letters=2, number=1), (0, 1))
        self.assertEqual(weights(place=[3], prime=7), [5, 3])
        self.assertEqual(table_worth(place=[3], table=[1, 2], prime=7), 4)
        self.assertEqual(folded(at=3, table=[1, 2], prime=7), [4])

    def test_the_prime_left_out(self):
        self.assertEqual(weights([3]), [29, 3])
        self.assertEqual(table_worth([1, 0], [3]), 29)
        self.assertEqual(folded([1, 0], 3), [29])


class Corners(Checks, unittest.TestCase):
    def test_the_one_of_the_document(self):
        self.tells((1, 1, 0), corner, 6, 3)

    def test_all_of_them(self):
        for letters in range(7):
            for number, figures in enumerate(itertools.product((0, 1), repeat=letters)):
                self.tells(figures, corner, number, letters)
        self.tells((), corner, 0, 0)

    def test_numbers_out_of_bounds(self):
        for letters in range(7):
            for number in (2 ** letters, 2 ** letters + 1, -1, -(2 ** letters), GREAT, -GREAT):
                self.refuses(BadPlace, corner, number, letters)

    def test_letters_out_of_bounds(self):
        for letters in (-1, -2, 7, 8, 100, GREAT, -GREAT):
            for number in (0, 1, -1, GREAT):
                self.refuses(BadPlace, corner, number, letters)


class Weights(Checks, unittest.TestCase):
    def test_of_no_rest_to_six(self):
        for prime in PRIMES:
            for letters in range(7):
                for seed in range(4):
                    place = some_rests(letters, seed, prime)
                    wanted = slow_weights(place, prime)
                    self.assertEqual(len(wanted), 2 ** letters)
                    self.tells(wanted, weights, place, prime=prime)
                    self.tells(wanted, weights, tuple(place), prime=prime)

    def test_of_no_rest(self):
        self.tells([1], weights, [])
        self.tells([1], weights, (), prime=3)

    def test_at_a_corner(self):
        for number in range(8):
            wanted = [0] * 8
            wanted[number] = 1
            self.tells(wanted, weights, corner(number, 3), prime=5)

    def test_the_first_letter_is_the_greatest(self):
        # (1 - 3)(1 - 2), (1 - 3) 2, 3 (1 - 2), 3 * 2 by 7
        self.tells([2, 3, 4, 6], weights, [3, 2], prime=7)

    def test_refusals(self):
        for prime in (3, 7, 31, 61):
            for many in (7, 8, 9, 64, 200):
                self.refuses(BadPlace, weights, [0] * many, prime=prime)
                self.refuses(BadPlace, weights, (1,) * many, prime=prime)
            for wrong in (prime, -1, GREAT, -GREAT, True):
                self.refuses(BadPlace, weights, [wrong], prime=prime)
                self.refuses(BadPlace, weights, (0, 0, 0, 0, 0, wrong), prime=prime)
                self.refuses(BadPrime, weights, [wrong], prime=prime + 1)
        for prime in NO_PRIMES:
            self.refuses(BadPrime, weights, [], prime=prime)
            self.refuses(BadPrime, weights, [0] * 7, prime=prime)


class TableWorths(Checks, unittest.TestCase):
    def test_of_each_size(self):
        for prime in PRIMES:
            for letters in range(7):
                for seed in range(3):
                    table = some_rests(2 ** letters, seed, prime)
                    place = some_rests(letters, seed + 1, prime)
                    wanted = slow_worth(table, place, prime)
                    self.tells(wanted, table_worth, table, place, prime=prime)
                    self.tells(wanted, table_worth, tuple(table), tuple(place), prime=prime)

    def test_at_the_corners(self):
        for letters in range(7):
            table = some_rests(2 ** letters, 5, 61)
            for number in range(2 ** letters):
                self.tells(table[number], table_worth, table, corner(number, letters), prime=61)

    def test_of_no_letter(self):
        self.tells(5, table_worth, [5], [], prime=7)
        self.tells(0, table_worth, (0,), (), prime=7)

    def test_tables_that_are_none(self):
        for prime in (3, 31):
            for table in wrong_tables(prime):
                self.refuses(BadTable, table_worth, table, [], prime=prime)
                self.refuses(BadTable, table_worth, tuple(table), [prime], prime=prime)
                self.refuses(BadPrime, table_worth, table, [prime], prime=prime + 1)

    def test_places_that_are_none(self):
        for prime in (3, 31):
            for letters in range(7):
                for place in wrong_places(letters, prime):
                    self.refuses(BadPlace, table_worth, [1] * 2 ** letters, place, prime=prime)
                    self.refuses(BadPrime, table_worth, [1] * 2 ** letters, place, prime=prime + 1)

    def test_no_primes(self):
        for prime in NO_PRIMES:
            self.refuses(BadPrime, table_worth, [0], [], prime=prime)


class Folded(Checks, unittest.TestCase):
    def test_of_each_size(self):
        for prime in PRIMES:
            for letters in range(1, 7):
                table = some_rests(2 ** letters, 3, prime)
                for at in range(prime):
                    told = folded(table, at, prime=prime)
                    self.assertEqual(len(told), 2 ** (letters - 1))
                    wanted = [
                        slow_worth(table, (at,) + figures, prime)
                        for figures in itertools.product((0, 1), repeat=letters - 1)
                    ]
                    self.tells(wanted, lambda: told)
                    self.tells(wanted, folded, tuple(table), at, prime=prime)

    def test_at_places_between(self):
        for letters in range(1, 7):
            table = some_rests(2 ** letters, 7, 31)
            place = some_rests(letters, 4, 31)
            self.tells(slow_worth(table, place, 31), table_worth, folded(table, place[0]), place[1:])

    def test_halves(self):
        self.tells([1, 2], folded, [1, 2, 3, 4], 0, prime=7)
        self.tells([3, 4], folded, [1, 2, 3, 4], 1, prime=7)
        self.tells([5, 6], folded, (1, 2, 3, 4), 2, prime=7)

    def test_of_no_letter(self):
        self.refuses(BadTable, folded, [5], 0, prime=7)
        self.refuses(BadTable, folded, (0,), 0)
        self.refuses(BadTable, folded, [5], 7, prime=7)
        self.refuses(BadPrime, folded, [5], 7, prime=8)

    def test_tables_that_are_none(self):
        for prime in (3, 31):
            for table in wrong_tables(prime):
                self.refuses(BadTable, folded, table, 0, prime=prime)
                self.refuses(BadTable, folded, tuple(table), prime, prime=prime)
                self.refuses(BadPrime, folded, table, prime, prime=prime + 1)

    def test_no_rests(self):
        for prime in (3, 31, 61):
            for at in (prime, prime + 1, -1, GREAT, -GREAT, True):
                self.refuses(BadRest, folded, [0, 1], at, prime=prime)
                self.refuses(BadRest, folded, [0] * 64, at, prime=prime)

    def test_no_primes(self):
        for prime in NO_PRIMES:
            self.refuses(BadPrime, folded, [0, 0], 0, prime=prime)


class Kept(Checks, unittest.TestCase):
    def test_told_lists_are_new(self):
        self.keeps(weights, [], prime=7)
        self.keeps(weights, [3, 1, 0], prime=7)
        self.keeps(weights, (3, 1, 0), prime=7)
        self.keeps(folded, [1, 2], 0, prime=7)
        self.keeps(folded, [1, 2, 3, 4], 1, prime=7)
        self.keeps(folded, (1, 2, 3, 4), 5, prime=7)

    def test_asking_for_a_worth_changes_nothing(self):
        table, place = [1, 2, 3, 4], [5, 6]
        self.tells(slow_worth(table, place, 7), table_worth, table, place, prime=7)
        self.assertEqual((table, place), ([1, 2, 3, 4], [5, 6]))


if __name__ == "__main__":
    unittest.main()
