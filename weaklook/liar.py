"""The told liar, who bends the true letter so that it is right by a wrong claim."""

from weaklook.letters import claim_by, ends_of, letter_through
from weaklook.lines import sum_by
from weaklook.rests import back_by


def mend_bend(many, excess, mended, prime):
    """What is added to the true line of a mend."""
    if many == 1:
        return [excess]
    root = 1 if mended == 0 else 0
    slope = excess * back_by((mended - root) % prime, prime)
    return [-root * slope, slope]


def forced_pair(low, high, claim, prime):
    """The pair with the claim as its product that keeps what it can of the true one."""
    if low != 0:
        return low, claim * back_by(low, prime) % prime
    if high != 0:
        return claim * back_by(high, prime) % prime, high
    return 1, claim


def forced_ends(word, letter, claim, prime):
    """The worths at 0 and at 1 of the liar's line at a word."""
    low, high = ends_of(letter, prime)
    if word == "all":
        return forced_pair(low, high, claim, prime)
    low, high = forced_pair((1 - low) % prime, (1 - high) % prime, (1 - claim) % prime, prime)
    return (1 - low) % prime, (1 - high) % prime


def liars_letter(scene, claim):
    """What the told liar says at a scene, with this claim as the last one."""
    letter, prime = scene.true_letter(), scene.prime
    word, many = scene.turn()
    excess = (claim - claim_by(word, letter, scene.mended(), prime)) % prime
    if excess == 0:
        return letter
    if word == "sum":
        return tuple(sum_by(letter, [0, 2 * excess, -excess], prime))
    if word == "mend":
        return tuple(sum_by(letter, mend_bend(many, excess, scene.mended(), prime), prime))
    if word == "split":
        return forced_pair(letter[0], letter[1], claim, prime)
    return letter_through(forced_ends(word, letter, claim, prime), prime)
