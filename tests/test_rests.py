import unittest
from fractions import Fraction
from math import gcd

from weaklook import rests
from weaklook.errors import BadPrime, BadRest, NoBack
from weaklook.rests import PRIME, PRIMES, back, is_prime, less, part, plus, power, rest, times
from tests.helping import Checks, places, signature

GREAT = 987654321098765432109876543210
NO_PRIMES = (-31, -3, -1, 0, 1, 2, 4, 6, 8, 9, 15, 21, 25, 27, 33, 49, 57, 60, 62, 63, 67, 71, GREAT, -GREAT, True)


class Primes(Checks, unittest.TestCase):
    def test_the_primes(self):
        wanted = tuple(n for n in range(3, 62) if all(n % k for k in range(2, n)))
        self.tells(wanted, lambda: PRIMES)
        self.tells(31, lambda: PRIME)
        self.assertEqual((PRIMES[0], PRIMES[-1], len(PRIMES)), (3, 61, 17))

    def test_is_prime_near(self):
        for number in range(-70, 200):
            self.assertIs(is_prime(number), number in PRIMES, number)

    def test_is_prime_far(self):
        for number in (GREAT, -GREAT, 10 ** 29, 10 ** 29 + 31, -31 * 10 ** 27, 7919, 2 ** 89 - 1):
            self.assertIs(is_prime(number), False, number)

    def test_true_and_false_are_no_numbers(self):
        self.assertIs(is_prime(True), False)
        self.refuses(BadRest, plus, True, 1)
        self.refuses(BadRest, times, 1, False)


class Signatures(unittest.TestCase):
    def test_names_and_stars(self):
        self.assertEqual(signature(is_prime), [("number", "place", None)])
        self.assertEqual(signature(rest), places("number"))
        for function in (plus, less, times):
            self.assertEqual(signature(function), places("one", "other"))
        self.assertEqual(signature(power), places("one", "many"))
        self.assertEqual(signature(back), places("one"))
        self.assertEqual(signature(part), [("over", "place", None), ("under", "place", None)])

    def test_by_name(self):
        self.assertEqual(rest(number=-1), 30)
        self.assertEqual(plus(other=6, one=5, prime=7), 4)
        self.assertEqual(less(other=6, one=5, prime=7), 6)
        self.assertEqual(times(other=6, one=5, prime=7), 2)
        self.assertEqual(power(many=3, one=2, prime=7), 1)
        self.assertEqual(back(one=3, prime=7), 5)
        self.assertEqual(part(under=4, over=6), (3, 2))
        self.assertIs(is_prime(number=31), True)

    def test_the_prime_by_its_name_alone(self):
        for function, things in ((rest, (5, 7)), (plus, (1, 2, 7)), (less, (1, 2, 7)), (times, (1, 2, 7)),
                                 (power, (1, 2, 7)), (back, (1, 7))):
            with self.assertRaises(TypeError):
                function(*things)


class Sums(Checks, unittest.TestCase):
    def test_rest(self):
        for prime in PRIMES:
            for number in list(range(-130, 131)) + [GREAT, -GREAT, 10 ** 29, -(10 ** 29), prime, -prime]:
                told = rest(number, prime=prime)
                self.assertTrue(0 <= told < prime)
                self.assertEqual((number - told) % prime, 0)

    def test_rest_with_the_prime_left_out(self):
        self.tells(0, rest, 31)
        self.tells(30, rest, -1)
        self.tells(GREAT - GREAT // 31 * 31, rest, GREAT)

    def test_plus_less_times(self):
        for prime in PRIMES:
            for one in range(prime):
                for other in range(prime):
                    self.assertEqual(plus(one, other, prime=prime), (one + other) % prime)
                    self.assertEqual(less(one, other, prime=prime), (one - other + prime) % prime)
                    self.assertEqual(times(one, other, prime=prime), one * other % prime)

    def test_with_the_prime_left_out(self):
        self.tells(29, plus, 30, 30)
        self.tells(1, less, 0, 30)
        self.tells(1, times, 30, 30)
        self.tells(1, power, 2, 5)
        self.tells(16, back, 2)

    def test_power(self):
        for prime in PRIMES:
            for one in range(prime):
                for many in (0, 1, 2, 3, 4, 5, prime - 2, prime - 1, prime, 64, GREAT, 10 ** 29, 10 ** 30 - 1):
                    self.assertEqual(power(one, many, prime=prime), pow(one, many, prime), (one, many, prime))

    def test_power_nought(self):
        for prime in PRIMES:
            self.tells(1, power, 0, 0, prime=prime)
            self.tells(0, power, 0, 1, prime=prime)
            self.tells(0, power, 0, GREAT, prime=prime)
            self.tells(1, power, prime - 1, 0, prime=prime)

    def test_back(self):
        for prime in PRIMES:
            self.refuses(NoBack, back, 0, prime=prime)
            for one in range(1, prime):
                told = back(one, prime=prime)
                self.assertTrue(0 < told < prime)
                self.assertEqual(one * told % prime, 1)


class Refusals(Checks, unittest.TestCase):
    def test_no_primes(self):
        for prime in NO_PRIMES:
            self.refuses(BadPrime, rest, 5, prime=prime)
            self.refuses(BadPrime, back, 1, prime=prime)
            for function in (plus, less, times, power):
                self.refuses(BadPrime, function, 0, 0, prime=prime)

    def test_no_rests(self):
        for prime in PRIMES:
            for wrong in (prime, prime + 1, -1, -prime, GREAT, -GREAT):
                for function in (plus, less, times):
                    self.refuses(BadRest, function, wrong, 1, prime=prime)
                    self.refuses(BadRest, function, 1, wrong, prime=prime)
                self.refuses(BadRest, power, wrong, 1, prime=prime)
                self.refuses(BadRest, power, wrong, 0, prime=prime)
                self.refuses(BadRest, back, wrong, prime=prime)

    def test_the_edges_are_rests(self):
        for prime in PRIMES:
            self.tells(prime - 1, plus, prime - 1, 0, prime=prime)
            self.tells(prime - 1, back, prime - 1, prime=prime)

    def test_the_prime_goes_first(self):
        for wrong in (-1, 31, 99, GREAT):
            for function in (plus, less, times):
                self.refuses(BadPrime, function, wrong, wrong, prime=9)
            self.refuses(BadPrime, power, wrong, 2, prime=9)
            self.refuses(BadPrime, back, wrong, prime=9)
        self.refuses(BadPrime, back, 0, prime=2)

    def test_a_multiple_of_the_prime_is_no_rest_ahead_of_no_back(self):
        self.refuses(BadRest, back, 31)
        self.refuses(BadRest, back, -31)
        self.refuses(NoBack, back, 0)


class Parts(Checks, unittest.TestCase):
    def test_lowest_terms(self):
        for over in range(-40, 41):
            for under in range(1, 41):
                told = part(over, under)
                wanted = Fraction(over, under)
                self.tells((wanted.numerator, wanted.denominator), lambda: told)

    def test_nought_and_below(self):
        self.tells((0, 1), part, 0, 1)
        self.tells((0, 1), part, 0, GREAT)
        self.tells((-3, 2), part, -6, 4)
        self.tells((-1, 1), part, -GREAT, GREAT)
        self.tells((7, 1), part, 7, 1)

    def test_great(self):
        under = 10 ** 29
        shared = gcd(GREAT, under)
        self.tells((GREAT // shared, under // shared), part, GREAT, under)
        self.tells((-(GREAT // shared), under // shared), part, -GREAT, under)


class Modules(unittest.TestCase):
    def test_primes_is_a_tuple(self):
        self.assertIs(type(rests.PRIMES), tuple)


if __name__ == "__main__":
    unittest.main()
