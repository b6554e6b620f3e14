"""Squares of rests: their products and powers, and their worths at two places."""

from weaklook.corners import folded_by, need_place, table_worth_by, weights_by
from weaklook.errors import BadSquare, TooMany
from weaklook.rests import PRIME, are_rests, need_prime, whole_power

SIDES = (2, 4, 8)
MOST_PAIRS = 2500


def is_square(square, prime):
    """Whether it is a square of rests by the prime."""
    if not isinstance(square, (list, tuple)) or len(square) not in SIDES:
        return False
    return all([are_rests(row, prime) and len(row) == len(square) for row in square])


def need_square(square, prime):
    """Refuse what is no square."""
    if not is_square(square, prime):
        raise BadSquare(f"a square has 2, 4 or 8 rows of as many rests by {prime}")


def need_squares(squares, prime):
    """Refuse what is no prime, and then what are no squares of one size."""
    need_prime(prime)
    for square in squares:
        need_square(square, prime)
    if any([len(square) != len(squares[0]) for square in squares]):
        raise BadSquare("the squares are of unlike sizes")


def letters_of_square(square):
    """How many letters the square has for its rows, and as many for its columns."""
    return len(square).bit_length() - 1


def need_few_pairs(square, prime):
    """Refuse a square that has more pairs of places than are gone through."""
    pairs = whole_power(prime, 2 * letters_of_square(square))
    if pairs > MOST_PAIRS:
        raise TooMany(f"there are {pairs} pairs of places, more than {MOST_PAIRS}")


def square_product_by(one, other, prime):
    """The product of two squares, without looking at what is handed in."""
    return [
        [sum([left * right for left, right in zip(row, column)]) % prime for column in zip(*other)]
        for row in one
    ]


def raised_by(square, many, prime):
    """The square's power, without looking at what is handed in."""
    total = [[1 if row == column else 0 for column in range(len(square))] for row in range(len(square))]
    doubled = square
    while many > 0:
        if many & 1:
            total = square_product_by(total, doubled, prime)
        doubled = square_product_by(doubled, doubled, prime)
        many >>= 1
    return total


def turned(square):
    """The square with its rows as columns."""
    return [list(column) for column in zip(*square)]


def carried_by(square, sides, prime):
    """Of each column the sum of its things, each times what stands at its row in sides."""
    return [sum([thing * side for thing, side in zip(column, sides)]) % prime for column in zip(*square)]


def row_table_by(square, rows, prime):
    """The table over columns at the place for rows, without looking at what is handed in."""
    return carried_by(square, weights_by(rows, prime), prime)


def square_worth_by(square, rows, columns, prime):
    """The square's worth at two places, without looking at what is handed in."""
    return table_worth_by(row_table_by(square, rows, prime), columns, prime)


def noughts(table, prime):
    """At how many places the table's worth is nought."""
    if len(table) == 1:
        return 1 if table[0] == 0 else 0
    return sum([noughts(folded_by(table, at, prime), prime) for at in range(prime)])


def alike_by(one, other, prime):
    """At how many pairs of places both have the same worth, without looking at what is handed in."""
    # Row by row a square is a table, with the letters of the rows ahead of those of the columns.
    unlike = [
        (left - right) % prime
        for row, other_row in zip(one, other)
        for left, right in zip(row, other_row)
    ]
    return noughts(unlike, prime)


def product(one, other, *, prime=PRIME):
    """The product of two squares, rows by columns."""
    need_squares([one, other], prime)
    return square_product_by(one, other, prime)


def raised(square, many, *, prime=PRIME):
    """The square taken times itself to the power of many."""
    need_squares([square], prime)
    return raised_by(square, many, prime)


def square_worth(square, rows, columns, *, prime=PRIME):
    """The square's worth at a place for rows and one for columns."""
    need_squares([square], prime)
    letters = letters_of_square(square)
    need_place(rows, letters, prime)
    need_place(columns, letters, prime)
    return square_worth_by(square, rows, columns, prime)


def row_table(square, rows, *, prime=PRIME):
    """The table over columns that has at each corner the square's worth at the place for rows and there."""
    need_squares([square], prime)
    need_place(rows, letters_of_square(square), prime)
    return row_table_by(square, rows, prime)


def alike(one, other, *, prime=PRIME):
    """At how many pairs of places both squares have the same worth."""
    need_squares([one, other], prime)
    need_few_pairs(one, prime)
    return alike_by(one, other, prime)
