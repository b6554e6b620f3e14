"""Tables over corners, and their worths at places between the corners."""

from weaklook.errors import BadPlace, BadTable
from weaklook.rests import PRIME, are_rests, is_number, need_prime, need_rest

MOST_LETTERS = 6


def are_letters(letters):
    """Whether a table may have so many letters."""
    return is_number(letters) and 0 <= letters <= MOST_LETTERS


def need_place(place, letters, prime):
    """Refuse what is no place of so many letters."""
    if not are_rests(place, prime) or len(place) != letters:
        raise BadPlace(f"the place has {letters} rests by {prime}")


def letters_of_table(table, prime):
    """How many letters the table has; refuse what is no table."""
    if not are_rests(table, prime):
        raise BadTable(f"a table is a list or tuple of rests by {prime}")
    letters = len(table).bit_length() - 1
    if not are_letters(letters) or len(table) != 1 << letters:
        raise BadTable(f"no table has {len(table)} things")
    return letters


def weights_by(place, prime):
    """The weights of all corners at the place, without looking at what is handed in."""
    total = [1]
    for at in place:
        # The first rest parts the corners in halves, each later one parts what is there again.
        total = [weight * side % prime for weight in total for side in (1 - at, at)]
    return total


def table_worth_by(table, place, prime):
    """The table's worth at the place, without looking at what is handed in."""
    return sum([thing * weight for thing, weight in zip(table, weights_by(place, prime))]) % prime


def folded_by(table, at, prime):
    """The table folded by a rest, without looking at what is handed in."""
    half = len(table) // 2
    return [((1 - at) * low + at * high) % prime for low, high in zip(table[:half], table[half:])]


def folded_through(table, place, prime):
    """The table folded by each rest in turn, without looking at what is handed in."""
    for at in place:
        table = folded_by(table, at, prime)
    return list(table)


def corner(number, letters):
    """The row of the number's figures in base two, as many as letters, the greatest first."""
    if not are_letters(letters):
        raise BadPlace(f"letters are 0 to {MOST_LETTERS}")
    if not is_number(number) or not 0 <= number < 1 << letters:
        raise BadPlace(f"no corner of {letters} letters has the number {number}")
    return tuple([number >> (letters - 1 - at) & 1 for at in range(letters)])


def weights(place, *, prime=PRIME):
    """The list of the weights of all corners at the place."""
    need_prime(prime)
    if not are_rests(place, prime) or not are_letters(len(place)):
        raise BadPlace(f"a place has 0 to {MOST_LETTERS} rests by {prime}")
    return weights_by(place, prime)


def table_worth(table, place, *, prime=PRIME):
    """The table's worth at the place."""
    need_prime(prime)
    letters = letters_of_table(table, prime)
    need_place(place, letters, prime)
    return table_worth_by(table, place, prime)


def folded(table, at, *, prime=PRIME):
    """The table of one letter less, with the rest for the first letter."""
    need_prime(prime)
    if letters_of_table(table, prime) == 0:
        raise BadTable("a table of no letters can't be folded")
    need_rest(at, prime)
    return folded_by(table, at, prime)
