"""Lines: rests that stand before the rising powers of a rest."""

from weaklook.errors import BadLine
from weaklook.rests import PRIME, are_rests, back_by, need_prime, need_rest

MOST_RESTS = 8


def need_line(line, prime):
    """Refuse what is no line."""
    if not are_rests(line, prime) or not 1 <= len(line) <= MOST_RESTS:
        raise BadLine(f"a line has 1 to {MOST_RESTS} rests by {prime}")


def need_lines(one, other, prime):
    """Refuse what is no prime, and then what are no two lines."""
    need_prime(prime)
    need_line(one, prime)
    need_line(other, prime)


def trimmed(line):
    """A new list without the noughts at the line's end, but for a single one."""
    many = len(line)
    while many > 1 and line[many - 1] == 0:
        many -= 1
    return list(line[:many])


def worth_by(line, at, prime):
    """The line's worth at a rest, without looking at what is handed in."""
    total = 0
    for thing in line[::-1]:
        total = (total * at + thing) % prime
    return total


def sum_by(one, other, prime):
    """The sum of two lines, its noughts kept, without looking at what is handed in."""
    total = [0] * max(len(one), len(other))
    for at, thing in enumerate(one):
        total[at] = thing
    for at, thing in enumerate(other):
        total[at] = (total[at] + thing) % prime
    return total


def product_by(one, other, prime):
    """The product of two lines, its noughts kept, without looking at what is handed in."""
    total = [0] * (len(one) + len(other) - 1)
    for first, left in enumerate(one):
        for second, right in enumerate(other):
            total[first + second] = (total[first + second] + left * right) % prime
    return total


def lone_line(at, height, many, prime):
    """The line that at `at` has this height, and nought at all others of the first many rests."""
    total = [height]
    for other in range(many):
        if other != at:
            scale = back_by((at - other) % prime, prime)
            total = product_by(total, [-other * scale % prime, scale], prime)
    return total


def worth(line, at, *, prime=PRIME):
    """The line's worth at a rest."""
    need_prime(prime)
    need_line(line, prime)
    need_rest(at, prime)
    return worth_by(line, at, prime)


def added(one, other, *, prime=PRIME):
    """The line that has at each rest the sum of both worths."""
    need_lines(one, other, prime)
    return trimmed(sum_by(one, other, prime))


def timed(one, other, *, prime=PRIME):
    """The line, of up to 15 rests, that is the product of both."""
    need_lines(one, other, prime)
    return trimmed(product_by(one, other, prime))


def through(worths, *, prime=PRIME):
    """The line of no more rests than worths that has these worths at 0, 1, 2 and so on."""
    need_prime(prime)
    need_line(worths, prime)
    if len(worths) > prime:
        raise BadLine(f"there are {len(worths)} worths, but {prime} rests")
    total = [0]
    for at, height in enumerate(worths):
        total = sum_by(total, lone_line(at, height, len(worths), prime), prime)
    return trimmed(total)


def roots(line, *, prime=PRIME):
    """The rising list of the rests at which the line's worth is nought."""
    need_prime(prime)
    need_line(line, prime)
    return [at for at in range(prime) if worth_by(line, at, prime) == 0]
