"""Stances: a scene with its claims and what the looker says of them; none is ever changed."""

from weaklook.letters import claim_by, claims_behind
from weaklook.scenes import first_scene


class Stance:
    """A scene, the claims that wait there (the last one last), and "on", "yes" or "no"."""

    def __init__(self, scene, waiting, standing):
        self.scene = scene
        self.waiting = waiting
        self.standing = standing


def settled(scene, waiting):
    """The stance behind all readings that are due."""
    while waiting and scene.turn() is None:
        if waiting[-1] != scene.reading():
            return Stance(scene, waiting, "no")
        scene = scene.read()
        waiting = waiting[:-1]
    return Stance(scene, waiting, "on" if waiting else "yes")


def first_stance(question, opening):
    """The stance ahead of the first letter, with the coins that are taken ahead of it."""
    scene, claim = first_scene(question, opening)
    return settled(scene, (claim,))


def coins_behind(stance):
    """How many coins are told behind the awaited letter."""
    return 0 if stance.scene.turn()[0] == "split" else 1


def is_right(stance, letter):
    """Whether the letter is right by the last claim."""
    scene = stance.scene
    return claim_by(scene.turn()[0], letter, scene.mended(), scene.prime) == stance.waiting[-1]


def let_by(stance, letter, coins):
    """The stance behind a letter that is let by, right or not, and the coins told behind it."""
    scene = stance.scene
    claims = claims_behind(scene.turn()[0], letter, coins, scene.prime)
    return settled(scene.after(coins), stance.waiting[:-1] + claims)


def turned_down(stance):
    """The stance where the awaited letter wasn't right."""
    return Stance(stance.scene, stance.waiting, "no")
