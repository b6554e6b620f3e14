"""Rests by a small odd prime, and parts in lowest terms."""

from weaklook.errors import BadPrime, BadRest, NoBack

PRIMES = (3, 5, 7, 11, 13, 17, 19, 23, 29, 31, 37, 41, 43, 47, 53, 59, 61)
PRIME = 31


def is_number(thing):
    """Whether it is a whole number."""
    # Python counts True and False among the integers, the document doesn't.
    return isinstance(thing, int) and not isinstance(thing, bool)


def is_prime(number):
    """Whether it is one of PRIMES."""
    return is_number(number) and number in PRIMES


def is_rest(thing, prime):
    """Whether it is a rest by the prime."""
    return is_number(thing) and 0 <= thing < prime


def are_rests(things, prime):
    """Whether it is a list or tuple that has nothing but rests in it."""
    return isinstance(things, (list, tuple)) and all([is_rest(thing, prime) for thing in things])


def need_prime(prime):
    """Refuse what is no prime."""
    if not is_prime(prime):
        raise BadPrime(f"{prime} is none of the primes from 3 to 61")


def need_rest(thing, prime):
    """Refuse what is no rest."""
    if not is_rest(thing, prime):
        raise BadRest(f"{thing} is no rest by {prime}")


def need_two(one, other, prime):
    """Refuse what is no prime, and then what are no two rests by it."""
    need_prime(prime)
    need_rest(one, prime)
    need_rest(other, prime)


def rest(number, *, prime=PRIME):
    """The rest of any number by the prime."""
    need_prime(prime)
    return number % prime


def plus(one, other, *, prime=PRIME):
    """The sum of two rests."""
    need_two(one, other, prime)
    return (one + other) % prime


def less(one, other, *, prime=PRIME):
    """The first rest less the other one."""
    need_two(one, other, prime)
    return (one - other) % prime


def times(one, other, *, prime=PRIME):
    """The product of two rests."""
    need_two(one, other, prime)
    return one * other % prime


def power_by(one, many, prime):
    """The power of a rest, without looking at what is handed in."""
    # Squaring keeps a power of thirty figures to some hundred steps.
    total = 1
    square = one
    while many > 0:
        if many & 1:
            total = total * square % prime
        square = square * square % prime
        many >>= 1
    return total


def power(one, many, *, prime=PRIME):
    """The rest taken times itself so many times; the power 0 is 1, of the rest 0 too."""
    need_prime(prime)
    need_rest(one, prime)
    return power_by(one, many, prime)


def back_by(one, prime):
    """The rest that times this one, not nought, is 1; without looking at what is handed in."""
    # By Fermat a rest to the power of the prime less 1 is 1, so one power less leads back.
    return power_by(one, prime - 2, prime)


def back(one, *, prime=PRIME):
    """The rest that times this one is 1."""
    need_prime(prime)
    need_rest(one, prime)
    if one == 0:
        raise NoBack("no rest times nought is 1")
    return back_by(one, prime)


def whole_power(base, many):
    """The power of a whole number, not taken by a prime."""
    total = 1
    for step in range(many):
        total *= base
    return total


def all_rows(many, prime):
    """All rows of so many rests, as tuples."""
    rows = [()]
    for step in range(many):
        rows = [row + (thing,) for row in rows for thing in range(prime)]
    return rows


def common(one, other):
    """The greatest number that goes into both."""
    while other:
        one, other = other, one % other
    return one


def part(over, under):
    """The pair of over and under, an under above nought, in lowest terms."""
    shared = common(abs(over), under)
    return (over // shared, under // shared)
