"""Letters: the claim by which each is right, and the claims that come behind it."""

from weaklook.corners import folded_by
from weaklook.lines import through, worth_by
from weaklook.tongue import all_or_some

SUM_RESTS = 3


def letter_through(heights, prime):
    """The line that has these worths at 0, 1, 2 and so on, with as many rests, noughts at its end too."""
    line = through(heights, prime=prime)
    return tuple(line + [0] * (len(heights) - len(line)))


def joint(left, right, prime):
    """The sum over all corners of what both tables have there, timed."""
    return sum([one * other for one, other in zip(left, right)]) % prime


def sum_letter(left, right, prime):
    """The line that has at each rest the joint sum of both tables folded by it."""
    # Folded tables are lines of degree 1 in the rest, so their product is told by three worths.
    heights = [
        joint(folded_by(left, at, prime), folded_by(right, at, prime), prime)
        for at in range(SUM_RESTS)
    ]
    return letter_through(heights, prime)


def ends_of(letter, prime):
    """The worths of a line at 0 and at 1."""
    return letter[0], worth_by(letter, 1, prime)


def claim_by(word, letter, mended, prime):
    """The one claim by which the letter is right; mended is the place's rest for the name that is mended."""
    if word == "split":
        return letter[0] * letter[1] % prime
    low, high = ends_of(letter, prime)
    if word == "sum":
        return (low + high) % prime
    if word == "mend":
        return ((1 - mended) * low + mended * high) % prime
    return all_or_some(word, low, high, prime)


def claims_behind(word, letter, coins, prime):
    """The claims that take the place of the one by which the letter was right, the last one last."""
    if word == "split":
        return (letter[1], letter[0])
    return (worth_by(letter, coins[0], prime),)
