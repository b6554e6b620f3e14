import itertools
import unittest

from weaklook.corners import corner, table_worth
from weaklook.errors import BadPlace, BadPrime, BadSquare, TooMany
from weaklook.rests import PRIMES
from weaklook.squares import alike, product, raised, row_table, square_worth
from tests.helping import GREAT, NO_PRIMES, Checks, places, signature

SIDES = {2: 1, 4: 2, 8: 3}
FEW = [(side, prime) for side, letters in SIDES.items() for prime in PRIMES if prime ** (2 * letters) <= 2500]
MANY = [(side, prime) for side, letters in SIDES.items() for prime in PRIMES if prime ** (2 * letters) > 2500]


def some_square(side, seed, prime):
    return [[(seed * row * row + 3 * row * column + column + seed) % prime for column in range(side)]
            for row in range(side)]


def tupled(square):
    return tuple(tuple(row) for row in square)


def changed(square, row, column, thing):
    found = [list(each) for each in square]
    found[row][column] = thing
    return found


def slow_product(one, other, prime):
    side = len(one)
    found = [[0] * side for row in range(side)]
    for row, column, middle in itertools.product(range(side), repeat=3):
        found[row][column] += one[row][middle] * other[middle][column]
    return [[thing % prime for thing in row] for row in found]


def slow_weight(figures, place):
    weight = 1
    for figure, at in zip(figures, place):
        weight *= at if figure else 1 - at
    return weight


def slow_worth(square, rows, columns, prime):
    """Straight from the words: things times the weights of their row's and their column's corner."""
    corners = list(itertools.product((0, 1), repeat=len(rows)))
    return sum(
        square[row][column] * slow_weight(corners[row], rows) * slow_weight(corners[column], columns)
        for row, column in itertools.product(range(len(square)), repeat=2)
    ) % prime


def slow_alike(one, other, prime):
    letters = SIDES[len(one)]
    all_places = list(itertools.product(range(prime), repeat=letters))
    return sum(
        slow_worth(one, rows, columns, prime) == slow_worth(other, rows, columns, prime)
        for rows in all_places for columns in all_places
    )


def some_places(letters, prime):
    for seed in range(3):
        yield [(5 * at + seed * 7 + 2) % prime for at in range(letters)], [(at + seed) % prime for at in range(letters)]


def wrong_squares(prime):
    """Things that are no squares by the prime."""
    for side in (0, 1, 3, 5, 6, 7, 9, 16, 200):
        yield [[0] * side for row in range(side)]
    for side in SIDES:
        square = some_square(side, 2, prime)
        yield square[1:]
        yield square + [square[0]]
        yield square * 2
        for row in (0, side - 1):
            yield square[:row] + [square[row] + [0]] + square[row + 1:]
            yield square[:row] + [square[row][1:]] + square[row + 1:]
            yield square[:row] + [[]] + square[row + 1:]
        yield [square[0] + [0], square[1][1:]] + square[2:]
        for row, column in ((0, 0), (0, side - 1), (side - 1, 0), (side - 1, side - 1)):
            for thing in (prime, prime + 1, -1, GREAT, -GREAT, True):
                yield changed(square, row, column, thing)


def wrong_places(letters, prime):
    """Things that are no places of so many letters by the prime."""
    for many in (0, 1, 2, 3, 4, 6, 7, 8, 200):
        if many != letters:
            yield [0] * many
    for thing in (prime, -1, GREAT, -GREAT, True):
        yield [0] * (letters - 1) + [thing]
        yield (thing,) + (1,) * (letters - 1)


class Signatures(unittest.TestCase):
    def test_names_and_stars(self):
        self.assertEqual(signature(product), places("one", "other"))
        self.assertEqual(signature(raised), places("square", "many"))
        self.assertEqual(signature(square_worth), places("square", "rows", "columns"))
        self.assertEqual(signature(row_table), places("square", "rows"))
        self.assertEqual(signature(alike), places("one", "other"))

    def test_by_name(self):
        one, other = [[1, 2], [3, 4]], [[0, 1], [1, 1]]
        self.assertEqual(product(other=other, one=one, prime=5), [[2, 3], [4, 2]])
        self.assertEqual(raised(many=2, square=one, prime=5), [[2, 0], [0, 2]])
        self.assertEqual(square_worth(columns=[1], rows=[0], square=one, prime=5), 2)
        self.assertEqual(row_table(rows=[1], square=one, prime=5), [3, 4])
        self.assertEqual(alike(other=one, one=one, prime=5), 25)

    def test_the_prime_by_its_name_alone(self):
        square = [[1, 2], [3, 4]]
        for function, things in ((product, (square, square)), (raised, (square, 2)), (row_table, (square, [0])),
                                 (square_worth, (square, [0], [0])), (alike, (square, square))):
            with self.assertRaises(TypeError):
                function(*things, 7)


class Products(Checks, unittest.TestCase):
    def test_of_each_size(self):
        for prime, side in itertools.product(PRIMES, SIDES):
            one, other = some_square(side, 2, prime), some_square(side, 5, prime)
            wanted = slow_product(one, other, prime)
            self.tells(wanted, product, one, other, prime=prime)
            self.tells(wanted, product, tupled(one), tupled(other), prime=prime)
            self.tells(wanted, product, tuple(one), [tuple(row) for row in other], prime=prime)

    def test_rows_by_columns(self):
        self.tells([[5, 1], [6, 2]], product, [[1, 2], [3, 4]], [[3, 0], [1, 4]], prime=7)
        self.tells([[3, 6], [6, 4]], product, [[3, 0], [1, 4]], [[1, 2], [3, 4]], prime=7)

    def test_the_prime_left_out(self):
        self.tells([[29, 0], [1, 1]], product, [[30, 30], [0, 1]], [[1, 30], [1, 1]])
        one, other = some_square(8, 3, 31), some_square(8, 4, 31)
        self.tells(slow_product(one, other, 31), product, one, other)

    def test_one_square_twice(self):
        square = [[1, 2], [3, 4]]
        self.tells(slow_product(square, square, 31), product, square, square)
        self.assertEqual(square, [[1, 2], [3, 4]])


class Powers(Checks, unittest.TestCase):
    def test_from_one_to_eight(self):
        for prime, side in itertools.product(PRIMES, SIDES):
            square = some_square(side, 3, prime)
            wanted = square
            for many in range(1, 9):
                self.tells(wanted, raised, square, many, prime=prime)
                self.tells(wanted, raised, tupled(square), many, prime=prime)
                wanted = slow_product(wanted, square, prime)

    def test_the_prime_left_out(self):
        self.tells([[1, 1], [0, 1]], raised, [[1, 1], [0, 1]], 1)
        self.tells([[1, 8], [0, 1]], raised, [[1, 1], [0, 1]], 8)
        self.tells([[2, 0], [0, 30]], raised, [[2, 0], [0, 30]], 1)
        self.tells([[1, 0], [0, 1]], raised, [[2, 0], [0, 1]], 5)

    def test_somewhat_beyond(self):
        self.tells([[1, 9], [0, 1]], raised, [[1, 1], [0, 1]], 9)
        self.tells([[1, 5], [0, 1]], raised, ((1, 1), (0, 1)), 12, prime=7)


class Worths(Checks, unittest.TestCase):
    def test_of_each_size(self):
        for prime, side in itertools.product(PRIMES, SIDES):
            square = some_square(side, 4, prime)
            for rows, columns in some_places(SIDES[side], prime):
                wanted = slow_worth(square, rows, columns, prime)
                self.tells(wanted, square_worth, square, rows, columns, prime=prime)
                self.tells(wanted, square_worth, tupled(square), tuple(rows), tuple(columns), prime=prime)

    def test_at_the_corners(self):
        for prime, (side, letters) in itertools.product((3, 31, 61), SIDES.items()):
            square = some_square(side, 7, prime)
            for row, column in itertools.product(range(side), repeat=2):
                at = corner(row, letters), corner(column, letters)
                self.tells(square[row][column], square_worth, square, *at, prime=prime)

    def test_rows_are_first(self):
        self.tells(2, square_worth, [[1, 2], [3, 4]], [0], [1], prime=7)
        self.tells(3, square_worth, [[1, 2], [3, 4]], [1], [0], prime=7)

    def test_by_hand(self):
        # (1 - 2)(1 - 3) 1 + (1 - 2) 3 * 2 + 2 (1 - 3) 3 + 2 * 3 * 4 = 2 - 6 - 12 + 24
        self.tells(1, square_worth, [[1, 2], [3, 4]], [2], [3], prime=7)
        self.tells(8, square_worth, [[1, 2], [3, 4]], [2], [3])


class RowTables(Checks, unittest.TestCase):
    def test_of_each_size(self):
        for prime, (side, letters) in itertools.product(PRIMES, SIDES.items()):
            square = some_square(side, 4, prime)
            for rows, columns in some_places(letters, prime):
                wanted = [slow_worth(square, rows, corner(column, letters), prime) for column in range(side)]
                self.tells(wanted, row_table, square, rows, prime=prime)
                self.tells(wanted, row_table, tupled(square), tuple(rows), prime=prime)
                there = slow_worth(square, rows, columns, prime)
                self.assertEqual(table_worth(row_table(square, rows, prime=prime), columns, prime=prime), there)

    def test_at_the_corners(self):
        for side, letters in SIDES.items():
            square = some_square(side, 7, 31)
            for row in range(side):
                self.tells(square[row], row_table, tupled(square), corner(row, letters))

    def test_by_hand(self):
        self.tells([5, 6], row_table, [[1, 2], [3, 4]], [2], prime=7)
        self.tells([30, 0], row_table, [[1, 2], [3, 4]], [30])


class Alike(Checks, unittest.TestCase):
    def test_of_alike_squares(self):
        self.assertEqual({side: max(prime for some, prime in FEW if some == side) for side in SIDES}, {2: 47, 4: 7, 8: 3})
        for side, prime in FEW:
            square = some_square(side, 3, prime)
            self.tells(prime ** (2 * SIDES[side]), alike, square, tupled(square), prime=prime)

    def test_of_squares_that_differ_in_one_thing(self):
        for side, prime in FEW:
            square = some_square(side, 3, prime)
            # Unlike where no letter makes the corner's weight nought: at P less 1 rests of each letter.
            wanted = prime ** (2 * SIDES[side]) - (prime - 1) ** (2 * SIDES[side])
            for row, column in ((0, 0), (0, side - 1), (side - 1, 1)):
                for step in (1, prime - 1):
                    other = changed(square, row, column, (square[row][column] + step) % prime)
                    self.tells(wanted, alike, square, other, prime=prime)
                    self.tells(wanted, alike, tupled(other), square, prime=prime)

    def test_of_others(self):
        for side, prime in ((2, 3), (2, 5), (2, 7), (2, 47), (4, 3), (4, 5), (8, 3)):
            for seed in (1, 2):
                one, other = some_square(side, seed, prime), some_square(side, seed + 4, prime)
                self.tells(slow_alike(one, other, prime), alike, one, other, prime=prime)

    def test_never_alike(self):
        self.tells(0, alike, [[1, 1], [1, 1]], [[0, 0], [0, 0]], prime=3)
        self.tells(0, alike, [[1] * 8] * 8, [[2] * 8] * 8, prime=3)

    def test_the_prime_left_out(self):
        self.tells(961, alike, [[1, 2], [3, 4]], [[1, 2], [3, 4]])
        self.tells(61, alike, [[1, 2], [3, 4]], [[1, 2], [3, 5]])

    def test_too_many(self):
        self.assertEqual({side: min(prime for some, prime in MANY if some == side) for side in SIDES}, {2: 53, 4: 11, 8: 5})
        for side, prime in MANY:
            square = some_square(side, 3, prime)
            self.refuses(TooMany, alike, square, square, prime=prime)
            self.refuses(TooMany, alike, tupled(square), some_square(side, 4, prime), prime=prime)

    def test_all_others_ahead_of_too_many(self):
        for side, prime in MANY:
            square = some_square(side, 3, prime)
            self.refuses(BadPrime, alike, square, square, prime=prime + 1)
            self.refuses(BadSquare, alike, square, changed(square, 0, 0, prime), prime=prime)
            self.refuses(BadSquare, alike, changed(square, 0, 0, -1), square, prime=prime)
            self.refuses(BadSquare, alike, square, square[1:], prime=prime)
            for other in SIDES:
                if other != side:
                    self.refuses(BadSquare, alike, square, some_square(other, 3, prime), prime=prime)


class Refusals(Checks, unittest.TestCase):
    def test_squares_that_are_none(self):
        for prime in (3, 31, 61):
            right = some_square(4, 1, prime)
            for wrong in wrong_squares(prime):
                for square in (wrong, tupled(wrong)):
                    for function in (product, alike):
                        self.refuses(BadSquare, function, square, right, prime=prime)
                        self.refuses(BadSquare, function, right, square, prime=prime)
                        self.refuses(BadSquare, function, square, square, prime=prime)
                    self.refuses(BadSquare, raised, square, 2, prime=prime)
                    self.refuses(BadSquare, row_table, square, [0] * 9, prime=prime)
                    self.refuses(BadSquare, row_table, square, [0, 0], prime=prime)
                    self.refuses(BadSquare, square_worth, square, [0], [prime], prime=prime)

    def test_unlike_sizes(self):
        for one, other in itertools.permutations(SIDES, 2):
            for prime in (3, 31):
                squares = some_square(one, 1, prime), some_square(other, 1, prime)
                self.refuses(BadSquare, product, *squares, prime=prime)
                self.refuses(BadSquare, alike, *squares, prime=prime)
                self.refuses(BadSquare, product, tupled(squares[0]), tupled(squares[1]), prime=prime)

    def test_places_that_are_none(self):
        for prime, (side, letters) in itertools.product((3, 31, 61), SIDES.items()):
            square = some_square(side, 1, prime)
            for place in wrong_places(letters, prime):
                self.refuses(BadPlace, row_table, square, place, prime=prime)
                self.refuses(BadPlace, square_worth, square, place, [0] * letters, prime=prime)
                self.refuses(BadPlace, square_worth, tupled(square), [0] * letters, tuple(place), prime=prime)
                self.refuses(BadPlace, square_worth, square, place, place, prime=prime)

    def test_the_prime_goes_first(self):
        for prime in NO_PRIMES:
            for square in ([[0, 0], [0, 0]], [[0, 0]], [[GREAT, 0], [0, -1]]):
                self.refuses(BadPrime, product, square, square, prime=prime)
                self.refuses(BadPrime, alike, square, [[0]], prime=prime)
                self.refuses(BadPrime, raised, square, 2, prime=prime)
                self.refuses(BadPrime, row_table, square, [GREAT], prime=prime)
                self.refuses(BadPrime, square_worth, square, [0], [], prime=prime)

    def test_the_edges_are_rests(self):
        self.tells([[1, 0], [0, 1]], product, [[60, 0], [0, 60]], [[60, 0], [0, 60]], prime=61)
        self.tells(60, square_worth, [[60, 60], [60, 60]], [60], [0], prime=61)


class Kept(Checks, unittest.TestCase):
    def test_told_lists_are_new(self):
        for side, letters in SIDES.items():
            identity = [[int(row == column) for column in range(side)] for row in range(side)]
            for make in (list, tuple, tupled):
                # New ones each time, for keeping spoils what it is handed.
                def fresh(square):
                    return make([list(row) for row in square])

                one, other = some_square(side, 1, 7), some_square(side, 2, 7)
                self.keeps_within(product, fresh(one), fresh(other), prime=7)
                self.keeps_within(product, fresh(one), fresh(identity), prime=7)
                self.keeps_within(product, fresh(identity), fresh(one), prime=7)
                for many in (1, 2, 8):
                    self.keeps_within(raised, fresh(one), many, prime=7)
                    self.keeps_within(raised, fresh(identity), many, prime=7)
                for at in (0, 1, 3):
                    self.keeps_within(row_table, fresh(one), [at] * letters, prime=7)

    def test_rows_of_the_answer_are_apart(self):
        told = raised([[0, 1], [0, 1]], 3)
        told[0][0] = 9
        self.assertEqual(told, [[9, 1], [0, 1]])
        told = product([[0, 0], [0, 0]], [[0, 0], [0, 0]])
        told[0][0] = 9
        self.assertEqual(told, [[9, 0], [0, 0]])

    def test_asking_changes_nothing(self):
        square, rows, columns = [[1, 2], [3, 4]], [5], [6]
        square_worth(square, rows, columns, prime=7)
        alike(square, [[1, 2], [3, 5]], prime=7)
        self.assertEqual((square, rows, columns), ([[1, 2], [3, 4]], [5], [6]))


if __name__ == "__main__":
    unittest.main()
