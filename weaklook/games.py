"""The best talker, who knows the question and the coins told so far, and no coin to come."""

from weaklook.errors import TooMany
from weaklook.questions import coins_of, course, opening_of
from weaklook.rests import all_rows, whole_power
from weaklook.stances import coins_behind, first_stance, is_right, let_by

MOST_WAYS = 20000


def best_behind(stance, heard, coins, known):
    """At how many rows of the coins to come one can be let by, behind so many letters and these coins."""
    if stance.standing != "on":
        return 1 if stance.standing == "yes" else 0
    # The letters count, too: behind a split and a reading the coins and the claims may be as ahead of them.
    key = (heard, coins, stance.waiting)
    if key not in known:
        known[key] = greatest(stance, heard, coins, known)
    return known[key]


def greatest(stance, heard, coins, known):
    """The greatest count over all letters that are right by the last claim."""
    prime = stance.scene.prime
    ends = all_rows(coins_behind(stance), prime)
    letters = [letter for letter in all_rows(stance.scene.turn()[1], prime) if is_right(stance, letter)]
    counts = []
    for letter in letters:
        counts.append(sum([
            best_behind(let_by(stance, letter, told), heard + 1, coins + told, known) for told in ends
        ]))
    return max(counts)


def best(question):
    """The count of rows of coins at which the best talker is let by, and how many rows there are."""
    prime, many = question[1], coins_of(question)
    ways = whole_power(prime, many + sum([rests - 1 for word, rests in course(question)]))
    if ways > MOST_WAYS:
        raise TooMany(f"there are {ways} ways to go through, more than {MOST_WAYS}")
    known = {}
    openings = all_rows(opening_of(question), prime)
    counts = [best_behind(first_stance(question, opening), 0, opening, known) for opening in openings]
    return (sum(counts), whole_power(prime, many))
