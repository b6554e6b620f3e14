"""The looker, who hears letters one by one, tells coins, and says yes or no."""

from weaklook.talks import awaited, first_talk, talk_behind, told_since


class Looker:
    """A looker of a question, with all coins that it will tell."""

    def __init__(self, question, coins):
        self.talk = first_talk(question, coins)

    def awaits(self):
        """The awaited letter as (word, many), or None."""
        return awaited(self.talk)

    def hear(self, letter):
        """Look at the letter, and tell the tuple of the coins behind it."""
        known = self.talk.known
        self.talk = talk_behind(self.talk, letter)
        return told_since(self.talk, known)

    def stand(self):
        """Whether it goes "on", or has said "yes" or "no"."""
        return self.talk.stance.standing

    def claims(self):
        """The list of the claims, the last one last."""
        return list(self.talk.stance.waiting)

    def told(self):
        """The list of all coins told."""
        return list(told_since(self.talk, 0))

    def heard(self):
        """How many letters it heard."""
        return len(self.talk.letters)
