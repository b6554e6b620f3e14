import itertools
import unittest

from weaklook.errors import BadPrime, BadQuestion, BadSaying, BadSquare
from weaklook.questions import coins_of, course, is_true, product_question, roads_question, saying_question
from weaklook.rests import PRIMES
from weaklook.tongue import read_saying
from tests.helping import GREAT, NO_PRIMES, Checks, places, signature
from tests.test_squares import SIDES, changed, slow_product, some_square, tupled, wrong_squares
from tests.test_tongue import wrong_sayings

WORDS = ("all", "some")
SUM, SPLIT = ("sum", 3), ("split", 2)
RIGHT = read_saying("all a some b : a & b | !a & !b")
WRONG = read_saying("some a all b : a & b | !a & !b")


def roads_by_claims(letters, length):
    """Straight from the words: claims one above the other, the last one looked at."""
    claims, found = [length], []
    while claims:
        last = claims.pop()
        if last != 1:
            found += [SUM] * letters + [SPLIT]
            claims += [last - last // 2, last // 2]
    return found


def some_degrees():
    """Sayings of one to four names, as (words, degrees, saying)."""
    for words in itertools.chain(*(itertools.product(WORDS, repeat=many) for many in (1, 2, 3, 4))):
        for turn in range(5):
            wanted = tuple((turn + 2 * at) % 5 for at in range(len(words)))
            if sum(wanted) > 6:
                wanted = tuple(min(1, degree) for degree in wanted)
            if not any(wanted):
                continue
            body = " & ".join(" & ".join([name] * many) for name, many in zip("abcd", wanted) if many)
            front = " ".join(f"{word} {name}" for word, name in zip(words, "abcd"))
            yield words, wanted, read_saying(f"{front} : {body}")


class Signatures(unittest.TestCase):
    def test_names_and_stars(self):
        self.assertEqual(signature(product_question), places("one", "other", "third"))
        self.assertEqual(signature(roads_question), places("web", "length", "start", "goal", "claim"))
        self.assertEqual(signature(saying_question), places("saying", "claim"))
        for function in (is_true, course, coins_of):
            self.assertEqual(signature(function), [("question", "place", None)])

    def test_by_name(self):
        square = ((1, 2), (3, 4))
        told = product_question(third=square, other=square, one=((0, 0), (0, 0)), prime=7)
        self.assertEqual(told, ("product", 7, ((0, 0), (0, 0)), square, square))
        told = roads_question(claim=6, goal=1, start=0, length=3, web=square, prime=7)
        self.assertEqual(told, ("roads", 7, square, 3, 0, 1, 6))
        told = saying_question(claim=1, saying=RIGHT, prime=7)
        self.assertEqual(told, ("saying", 7, RIGHT, 1))
        self.assertIs(is_true(question=told), True)
        self.assertEqual(len(course(question=told)), 5)
        self.assertEqual(coins_of(question=told), 5)

    def test_the_prime_by_its_name_alone(self):
        square = [[1, 2], [3, 4]]
        for function, things in ((product_question, (square, square, square)), (saying_question, (RIGHT, 1)),
                                 (roads_question, (square, 1, 0, 0, 0))):
            with self.assertRaises(TypeError):
                function(*things, 7)


class Products(Checks, unittest.TestCase):
    def test_the_very_tuple(self):
        for prime, side in itertools.product(PRIMES, SIDES):
            squares = [some_square(side, seed, prime) for seed in (1, 2, 3)]
            wanted = ("product", prime, *map(tupled, squares))
            self.tells(wanted, product_question, *squares, prime=prime)
            self.tells(wanted, product_question, *map(tupled, squares), prime=prime)
            self.tells(wanted, product_question, *map(tuple, squares), prime=prime)

    def test_the_prime_left_out(self):
        square = [[30, 0], [1, 2]]
        self.tells(("product", 31) + (tupled(square),) * 3, product_question, square, square, square)

    def test_a_later_change_changes_nothing(self):
        for make in (list, tuple):
            self.keeps_within(product_question, *(make(some_square(4, seed, 7)) for seed in (1, 2, 3)), prime=7)

    def test_refusals(self):
        for prime in (3, 31):
            right = some_square(2, 1, prime)
            for square in wrong_squares(prime):
                for things in ((square, right, right), (right, square, right), (right, right, square), (square,) * 3):
                    self.refuses(BadSquare, product_question, *things, prime=prime)
                    self.refuses(BadPrime, product_question, *things, prime=prime + 1)
            for sides in itertools.product(SIDES, repeat=3):
                if len(set(sides)) > 1:
                    squares = [some_square(side, 1, prime) for side in sides]
                    self.refuses(BadSquare, product_question, *squares, prime=prime)
        for prime in NO_PRIMES:
            self.refuses(BadPrime, product_question, *[[[0, 0], [0, 0]]] * 3, prime=prime)


class Roads(Checks, unittest.TestCase):
    def test_the_very_tuple(self):
        for prime, side in itertools.product(PRIMES, SIDES):
            web = some_square(side, 1, prime)
            for length, start, goal, claim in ((1, 0, 0, 0), (8, side - 1, side - 1, prime - 1), (3, 1, 0, 2)):
                wanted = ("roads", prime, tupled(web), length, start, goal, claim)
                self.tells(wanted, roads_question, web, length, start, goal, claim, prime=prime)
                self.tells(wanted, roads_question, tupled(web), length, start, goal, claim, prime=prime)

    def test_the_prime_left_out(self):
        self.tells(("roads", 31, ((30, 0), (1, 2)), 1, 0, 1, 30), roads_question, [[30, 0], [1, 2]], 1, 0, 1, 30)

    def test_a_later_change_changes_nothing(self):
        for make in (list, tuple):
            self.keeps_within(roads_question, make(some_square(4, 1, 7)), 2, 1, 3, 5, prime=7)

    def test_numbers_out_of_bounds(self):
        for prime, side in itertools.product((3, 31), SIDES):
            web = some_square(side, 1, prime)
            for length in (0, 9, 10, -1, GREAT, -GREAT, True):
                self.refuses(BadQuestion, roads_question, web, length, 0, 0, 0, prime=prime)
            for place in (side, side + 1, -1, -side, GREAT, -GREAT, True):
                self.refuses(BadQuestion, roads_question, web, 2, place, 0, 0, prime=prime)
                self.refuses(BadQuestion, roads_question, web, 2, 0, place, 0, prime=prime)
            for claim in (prime, prime + 1, -1, GREAT, -GREAT, True):
                self.refuses(BadQuestion, roads_question, web, 2, 0, 0, claim, prime=prime)
            for length in range(1, 9):
                for start, goal in itertools.product(range(side), repeat=2):
                    roads_question(web, length, start, goal, prime - 1, prime=prime)

    def test_the_order_of_the_refusals(self):
        for prime in (3, 31):
            for web in wrong_squares(prime):
                for numbers in ((1, 0, 0, 0), (0, 0, 0, 0), (1, 9, 0, 0), (1, 0, -1, 0), (9, 9, 9, prime)):
                    self.refuses(BadSquare, roads_question, web, *numbers, prime=prime)
                self.refuses(BadPrime, roads_question, web, 0, 9, 9, prime, prime=prime + 1)
        for prime in NO_PRIMES:
            self.refuses(BadPrime, roads_question, [[0, 0], [0, 0]], 1, 0, 0, 0, prime=prime)
            self.refuses(BadPrime, roads_question, [[0, 0], [0, 0]], 0, 2, 2, GREAT, prime=prime)


class Sayings(Checks, unittest.TestCase):
    def test_the_very_tuple(self):
        for prime in PRIMES:
            for claim in (0, 1):
                self.tells(("saying", prime, RIGHT, claim), saying_question, RIGHT, claim, prime=prime)
        self.tells(("saying", 31, WRONG, 0), saying_question, WRONG, 0)

    def test_claims_that_are_none(self):
        for claim in (-1, 2, 3, 31, GREAT, -GREAT, True, False):
            for prime in (3, 31):
                self.refuses(BadQuestion, saying_question, RIGHT, claim, prime=prime)

    def test_a_degree_that_is_the_prime_or_more(self):
        two = read_saying("all a some b : a & b | a & !b")
        three = read_saying("all b some a : (a | b) & a & !a")
        four = read_saying("some b all c : c | (b | b) & (b | !b)")
        for claim in (0, 1):
            self.tells(("saying", 3, two, claim), saying_question, two, claim, prime=3)
            for saying in (three, four):
                self.refuses(BadSaying, saying_question, saying, claim, prime=3)
                for prime in PRIMES[1:]:
                    self.tells(("saying", prime, saying, claim), saying_question, saying, claim, prime=prime)

    def test_the_order_of_the_refusals(self):
        three = read_saying("all a : a & a & a")
        for saying in wrong_sayings():
            for claim in (0, 1, 2):
                self.refuses(BadSaying, saying_question, saying, claim)
                self.refuses(BadPrime, saying_question, saying, claim, prime=32)
        self.refuses(BadSaying, saying_question, three, 2, prime=3)
        self.refuses(BadQuestion, saying_question, three, 2, prime=5)
        for prime in NO_PRIMES:
            self.refuses(BadPrime, saying_question, RIGHT, 1, prime=prime)
            self.refuses(BadPrime, saying_question, three, 2, prime=prime)


class Truths(Checks, unittest.TestCase):
    def test_products(self):
        for prime, side in itertools.product((3, 7, 31, 61), SIDES):
            one, other = some_square(side, 2, prime), some_square(side, 5, prime)
            third = slow_product(one, other, prime)
            self.tells(True, is_true, product_question(one, other, third, prime=prime))
            self.tells(True, is_true, product_question(tupled(one), tupled(other), tupled(third), prime=prime))
            for row, column in ((0, 0), (side - 1, 0), (0, side - 1), (side - 1, side - 1)):
                for step in (1, prime - 1):
                    wrong = changed(third, row, column, (third[row][column] + step) % prime)
                    self.tells(False, is_true, product_question(one, other, wrong, prime=prime))

    def test_products_go_rows_by_columns(self):
        one, other, third = [[1, 2], [3, 4]], [[3, 0], [1, 4]], [[5, 1], [6, 2]]
        self.tells(True, is_true, product_question(one, other, third, prime=7))
        self.tells(False, is_true, product_question(other, one, third, prime=7))

    def test_roads(self):
        for prime, side in itertools.product((3, 7, 31, 61), SIDES):
            web = some_square(side, 3, prime)
            power = web
            for length in range(1, 9):
                for start, goal in ((0, 0), (0, side - 1), (side - 1, 0), (1, 1)):
                    right = power[start][goal]
                    question = roads_question(web, length, start, goal, right, prime=prime)
                    self.tells(True, is_true, question)
                    for step in (1, prime - 1):
                        question = roads_question(web, length, start, goal, (right + step) % prime, prime=prime)
                        self.tells(False, is_true, question)
                power = slow_product(power, web, prime)

    def test_roads_go_from_row_to_column(self):
        web = [[0, 1], [0, 0]]
        self.tells(True, is_true, roads_question(web, 1, 0, 1, 1))
        self.tells(True, is_true, roads_question(web, 1, 1, 0, 0))
        self.tells(True, is_true, roads_question(web, 2, 0, 1, 0))
        self.tells(False, is_true, roads_question(web, 1, 1, 0, 1))

    def test_roads_are_counted_by_the_prime(self):
        # Eight steps between two knots, each with both roads: 128 of them.
        for prime in PRIMES:
            self.tells(True, is_true, roads_question([[1, 1], [1, 1]], 8, 0, 1, 128 % prime, prime=prime))

    def test_sayings(self):
        for prime in (3, 31, 61):
            self.tells(True, is_true, saying_question(RIGHT, 1, prime=prime))
            self.tells(False, is_true, saying_question(RIGHT, 0, prime=prime))
            self.tells(False, is_true, saying_question(WRONG, 1, prime=prime))
            self.tells(True, is_true, saying_question(WRONG, 0, prime=prime))


class Courses(Checks, unittest.TestCase):
    def test_products(self):
        for prime, (side, letters) in itertools.product((3, 31, 61), SIDES.items()):
            question = product_question(*[some_square(side, 1, prime)] * 3, prime=prime)
            self.tells([SUM] * letters, course, question)
            self.tells(3 * letters, coins_of, question)

    def test_roads(self):
        for prime, (side, letters), length in itertools.product((3, 31), SIDES.items(), range(1, 9)):
            question = roads_question(some_square(side, 1, prime), length, 0, 1, 2, prime=prime)
            self.tells(roads_by_claims(letters, length), course, question)
            self.tells(letters * (length - 1), coins_of, question)

    def test_roads_by_hand(self):
        web = [[0] * 4] * 4
        self.tells([], course, roads_question(web, 1, 0, 0, 0))
        self.tells(0, coins_of, roads_question(web, 1, 0, 0, 0))
        self.tells([SUM, SUM, SPLIT], course, roads_question(web, 2, 0, 0, 0))
        self.tells([SUM, SUM, SPLIT] * 2, course, roads_question(web, 3, 0, 0, 0))
        self.tells(4, coins_of, roads_question(web, 3, 0, 0, 0))
        self.tells([SUM, SPLIT] * 7, course, roads_question([[0, 1], [2, 3]], 8, 1, 1, 0))

    def test_sayings_of_one_name(self):
        for word in WORDS:
            for many in range(1, 5):
                body = " & ".join("a" * many)
                question = saying_question(read_saying(f"{word} a : {body}"), 1)
                self.tells([(word, 2), ("mend", many + 1)], course, question)
                self.tells(2, coins_of, question)

    def test_sayings_by_hand(self):
        question = saying_question(read_saying("all a some b all c : a & (b | a) & a"), 0, prime=5)
        self.tells(
            [("all", 2), ("mend", 3), ("some", 2), ("mend", 3), ("mend", 3),
             ("all", 2), ("mend", 4), ("mend", 2), ("mend", 1)],
            course, question)
        self.tells(9, coins_of, question)

    def test_sayings_of_one_to_four_names(self):
        seen = set()
        for words, wanted, saying in some_degrees():
            turns = []
            for many in range(1, len(words) + 1):
                turns.append((words[many - 1], 2))
                for at in range(many):
                    turns.append(("mend", (wanted[at] if many == len(words) else 2) + 1))
            for claim in (0, 1):
                question = saying_question(saying, claim, prime=5)
                self.tells(turns, course, question)
                self.tells({1: 2, 2: 5, 3: 9, 4: 14}[len(words)], coins_of, question)
            seen.update((len(words), degree) for degree in wanted)
        # With one name alone none has the degree nought, for a body has a name.
        self.assertEqual(seen & {(2, 0), (3, 0), (4, 0), (1, 4), (2, 4)}, {(2, 0), (3, 0), (4, 0), (1, 4), (2, 4)})

    def test_told_lists_are_new(self):
        square = some_square(4, 1, 7)
        for question in (product_question(square, square, square, prime=7), roads_question(square, 5, 0, 0, 0, prime=7),
                         roads_question(square, 1, 0, 0, 0, prime=7), saying_question(RIGHT, 1)):
            self.keeps_within(course, question)
            self.assertIs(type(course(question)), list)

    def test_asking_changes_nothing(self):
        squares = [some_square(2, seed, 7) for seed in (1, 2, 3)]
        question = product_question(*squares, prime=7)
        told = is_true(question), course(question), coins_of(question)
        for square in squares:
            square[0][0] = (square[0][0] + 1) % 7
        self.assertEqual((is_true(question), course(question), coins_of(question)), told)
        self.assertEqual(question[2], tupled(some_square(2, 1, 7)))


if __name__ == "__main__":
    unittest.main()
