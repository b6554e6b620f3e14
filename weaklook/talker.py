"""The talker, who says the true letters or the told liar's."""

from weaklook.liar import liars_letter
from weaklook.questions import opening_of
from weaklook.stances import coins_behind, first_stance, let_by
from weaklook.talks import need_coins, need_going_on


def said_letter(stance, lies):
    """The letter that the true talker says, or else the told liar."""
    return liars_letter(stance.scene, stance.waiting[-1]) if lies else stance.scene.true_letter()


class Talker:
    """A talker of a question; opening are the coins of a product's two places."""

    def __init__(self, question, *, opening=(), lies=False):
        need_coins(opening, opening_of(question), question[1])
        self.stance = first_stance(question, tuple(opening))
        self.lying = lies

    def letter(self):
        """The letter that it says next."""
        need_going_on(self.stance)
        return said_letter(self.stance, self.lying)

    def hear(self, coins):
        """Take the coins behind its letter, as if that had been right."""
        need_going_on(self.stance)
        need_coins(coins, coins_behind(self.stance), self.stance.scene.prime)
        self.stance = let_by(self.stance, self.letter(), tuple(coins))
