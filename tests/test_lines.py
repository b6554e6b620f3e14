import itertools
import unittest

from weaklook.errors import BadLine, BadPrime, BadRest
from weaklook.lines import added, roots, through, timed, worth
from weaklook.rests import PRIMES
from tests.helping import GREAT, NO_PRIMES, Checks, places, signature


def some_line(many, seed, prime):
    """A line of many rests, the last of them not nought."""
    line = [(seed * seed + 5 * at * seed + at * at * at + 1) % prime for at in range(many)]
    line[-1] = line[-1] or 1
    return line


def slow_worth(line, at, prime):
    return sum(thing * pow(at, many) for many, thing in enumerate(line)) % prime


def cut(line):
    """The line without noughts at its end, made the slow way."""
    last = [at for at, thing in enumerate(line) if thing]
    return list(line[:last[-1] + 1]) if last else [0]


def wrong_lines(prime):
    """Things that are no lines by the prime: of no rest, of nine or more, and with no rest at either end."""
    return (
        [], (), [0] * 9, (1,) * 9, [1] + [0] * 8, [0] * 200, [prime], (prime,), [-1], [0, prime], [0, -1, 0],
        [1, 2, GREAT], [-GREAT, 1], [0] * 7 + [prime], [True], [0, False],
    )


class Signatures(unittest.TestCase):
    def test_names_and_stars(self):
        self.assertEqual(signature(worth), places("line", "at"))
        self.assertEqual(signature(added), places("one", "other"))
        self.assertEqual(signature(timed), places("one", "other"))
        self.assertEqual(signature(through), places("worths"))
        self.assertEqual(signature(roots), places("line"))

    def test_by_name(self):
        self.assertEqual(worth(at=2, line=[1, 2, 3], prime=5), 2)
        self.assertEqual(added(other=[1], one=[2, 3], prime=5), [3, 3])
        self.assertEqual(timed(other=[1, 1], one=[2], prime=5), [2, 2])
        self.assertEqual(through(worths=[1, 2], prime=5), [1, 1])
        self.assertEqual(roots(line=[0, 1], prime=5), [0])

    def test_the_prime_left_out(self):
        self.assertEqual(worth([0, 0, 1], 6), 5)
        self.assertEqual(added([30], [3]), [2])
        self.assertEqual(timed([30], [30]), [1])
        self.assertEqual(through([0, 30]), [0, 30])
        self.assertEqual(roots([1, 1]), [30])


class Worths(Checks, unittest.TestCase):
    def test_worth(self):
        for prime in PRIMES:
            for many in range(1, 9):
                line = some_line(many, 4, prime)
                for at in range(prime):
                    wanted = slow_worth(line, at, prime)
                    self.tells(wanted, worth, line, at, prime=prime)
                    self.tells(wanted, worth, tuple(line), at, prime=prime)

    def test_first_rest_stands_alone(self):
        self.tells(4, worth, [4, 1, 1], 0, prime=7)
        self.tells(6, worth, [4, 1, 1], 1, prime=7)
        self.tells(3, worth, [4, 1, 1], 2, prime=7)

    def test_lines_with_noughts_at_their_end(self):
        self.tells(5, worth, [3, 1, 0, 0], 2, prime=7)
        self.tells(0, worth, [0] * 8, 6, prime=7)

    def test_refusals(self):
        for prime in (3, 7, 31, 61):
            for line in wrong_lines(prime):
                self.refuses(BadLine, worth, line, 0, prime=prime)
                self.refuses(BadLine, worth, line, prime, prime=prime)
                self.refuses(BadPrime, worth, line, prime, prime=prime + 1)
            for at in (prime, -1, prime + 1, GREAT, -GREAT):
                self.refuses(BadRest, worth, [1], at, prime=prime)
        for prime in NO_PRIMES:
            self.refuses(BadPrime, worth, [0], 0, prime=prime)


class Sums(Checks, unittest.TestCase):
    def test_added(self):
        for prime in PRIMES:
            for many, more in itertools.product(range(1, 9), repeat=2):
                one, other = some_line(many, 2, prime), some_line(more, 3, prime)
                long_one, long_other = one + [0] * (8 - many), other + [0] * (8 - more)
                wanted = cut([(a + b) % prime for a, b in zip(long_one, long_other)])
                self.tells(wanted, added, one, other, prime=prime)
                self.tells(wanted, added, tuple(one), other, prime=prime)
                self.tells(wanted, added, tuple(long_one), tuple(long_other), prime=prime)

    def test_sums_that_fall_together(self):
        self.tells([1], added, [0, 1, 2], [1, 2, 1], prime=3)
        self.tells([0], added, [1, 2, 3], [6, 5, 4], prime=7)
        self.tells([0, 1], added, [1, 1, 3], (6, 0, 4), prime=7)
        self.tells([0], added, [0], [0], prime=7)
        self.tells([0], added, [0] * 8, [0, 0], prime=7)
        self.tells([5], added, [5, 0, 0], [0], prime=7)
        self.tells([0, 0, 1], added, [0, 0, 1, 0], [0], prime=7)

    def test_timed(self):
        for prime in PRIMES:
            for many, more in itertools.product(range(1, 9), repeat=2):
                one, other = some_line(many, 2, prime), some_line(more, 3, prime)
                wanted = [
                    sum(one[k] * other[at - k] for k in range(many) if 0 <= at - k < more) % prime
                    for at in range(many + more - 1)
                ]
                self.assertEqual(len(cut(wanted)), many + more - 1)
                self.tells(wanted, timed, one, other, prime=prime)
                self.tells(wanted, timed, tuple(one), other, prime=prime)
                self.tells(wanted, timed, one + [0] * (8 - many), tuple(other + [0] * (8 - more)), prime=prime)

    def test_timed_of_fifteen(self):
        self.tells([1, 2, 3, 4, 5, 6, 7, 8, 7, 6, 5, 4, 3, 2, 1], timed, [1] * 8, [1] * 8, prime=61)

    def test_timed_by_nought(self):
        self.tells([0], timed, [0], [1, 2, 3, 4, 5, 6, 0, 1], prime=7)
        self.tells([0], timed, [1, 2, 3], [0, 0, 0], prime=7)
        self.tells([0], timed, (0,), (0,), prime=7)

    def test_refusals(self):
        for function in (added, timed):
            for prime in (3, 7, 31, 61):
                for line in wrong_lines(prime):
                    self.refuses(BadLine, function, line, [1], prime=prime)
                    self.refuses(BadLine, function, [1], line, prime=prime)
                    self.refuses(BadPrime, function, line, [1], prime=prime + 1)
                    self.refuses(BadPrime, function, [1], line, prime=prime - 1)
            for prime in NO_PRIMES:
                self.refuses(BadPrime, function, [0], [0], prime=prime)


class Through(Checks, unittest.TestCase):
    def test_of_every_length(self):
        for prime in PRIMES:
            for many in range(1, min(8, prime) + 1):
                for seed in range(6):
                    worths = some_line(many, seed, prime)
                    line = through(worths, prime=prime)
                    self.assertTrue(1 <= len(line) <= many)
                    self.assertEqual(line, cut(line))
                    self.assertEqual([slow_worth(line, at, prime) for at in range(many)], worths)
                    self.assertTrue(all(0 <= thing < prime for thing in line))
                    self.tells(line, through, tuple(worths), prime=prime)

    def test_lines_come_back(self):
        for prime in PRIMES:
            for many in range(1, min(8, prime) + 1):
                line = some_line(many, 5, prime)
                worths = [slow_worth(line, at, prime) for at in range(min(8, prime))]
                self.tells(line, through, worths, prime=prime)

    def test_all_worths_by_three(self):
        for many in (1, 2, 3):
            for worths in itertools.product(range(3), repeat=many):
                line = through(worths, prime=3)
                self.assertEqual(tuple(slow_worth(line, at, 3) for at in range(many)), worths)
                self.assertEqual(line, cut(line))

    def test_no_noughts_at_the_end(self):
        self.tells([0], through, [0] * 7, prime=7)
        self.tells([4], through, (4,) * 7, prime=7)
        self.tells([0, 1], through, [0, 1, 2, 3, 4, 5, 6], prime=7)
        self.tells([0], through, [0], prime=3)

    def test_as_many_as_the_prime_and_more(self):
        self.tells([1, 1, 2], through, [1, 1, 2], prime=3)
        self.refuses(BadLine, through, [1, 1, 2, 1], prime=3)
        self.refuses(BadLine, through, (0,) * 6, prime=5)
        self.refuses(BadLine, through, [0] * 8, prime=7)
        self.tells([0], through, [0] * 8, prime=11)
        self.tells([0, 1], through, [0, 1, 2, 3, 4], prime=5)

    def test_refusals(self):
        for prime in (3, 7, 31, 61):
            for line in wrong_lines(prime):
                self.refuses(BadLine, through, line, prime=prime)
                self.refuses(BadPrime, through, line, prime=prime + 1)
        for prime in NO_PRIMES:
            self.refuses(BadPrime, through, [0], prime=prime)
        self.refuses(BadPrime, through, [0, 0, 0, 0, 0], prime=4)


class Roots(Checks, unittest.TestCase):
    def test_of_every_length(self):
        for prime in PRIMES:
            for many in range(1, 9):
                for seed in range(4):
                    line = some_line(many, seed, prime)
                    wanted = [at for at in range(prime) if slow_worth(line, at, prime) == 0]
                    self.tells(wanted, roots, line, prime=prime)
                    self.tells(wanted, roots, tuple(line), prime=prime)

    def test_known_roots(self):
        self.tells([2, 5], roots, [10, -7 % 31, 1])
        self.tells([], roots, [1])
        self.tells([], roots, [1, 0, 1], prime=7)
        self.tells([2, 3], roots, [1, 0, 1], prime=5)
        self.tells([0], roots, (0, 0, 3), prime=5)

    def test_line_of_nought(self):
        for prime in PRIMES:
            self.tells(list(range(prime)), roots, [0], prime=prime)
            self.tells(list(range(prime)), roots, (0,) * 8, prime=prime)

    def test_worth_nought_at_all_rests_but_not_the_line_of_nought(self):
        self.tells([0, 1, 2], roots, [0, 2, 0, 1], prime=3)

    def test_refusals(self):
        for prime in (3, 7, 31, 61):
            for line in wrong_lines(prime):
                self.refuses(BadLine, roots, line, prime=prime)
                self.refuses(BadPrime, roots, line, prime=prime - 1)
        for prime in NO_PRIMES:
            self.refuses(BadPrime, roots, [0], prime=prime)


class Kept(Checks, unittest.TestCase):
    def test_told_lists_are_new(self):
        self.keeps(added, [1, 2, 0], [0], prime=7)
        self.keeps(added, [0], [1, 2, 3], prime=7)
        self.keeps(added, (1, 2), (3,), prime=7)
        self.keeps(timed, [1], [1, 2, 3], prime=7)
        self.keeps(timed, [1, 2, 3], [1], prime=7)
        self.keeps(timed, [0], [0], prime=7)
        self.keeps(through, [2], prime=7)
        self.keeps(through, [1, 2, 3], prime=7)
        self.keeps(roots, [0], prime=7)
        self.keeps(roots, [0, 1], prime=7)

    def test_one_list_twice(self):
        line = [1, 2]
        self.tells([2, 4], added, line, line, prime=7)
        self.tells([1, 4, 4], timed, line, line, prime=7)
        self.assertEqual(line, [1, 2])

    def test_asking_for_a_worth_changes_nothing(self):
        line = [1, 2, 0]
        self.tells(5, worth, line, 2, prime=7)
        self.assertEqual(line, [1, 2, 0])


if __name__ == "__main__":
    unittest.main()
