"""Whole talks: led to their end, and looked at as papers."""

from weaklook.errors import BadLetter
from weaklook.talker import said_letter
from weaklook.talks import first_talk, paper_of, talk_behind


def led(question, coins, *, lies=False):
    """What the looker says at the end of the talk with a true talker or the told liar, and its paper."""
    talk = first_talk(question, coins)
    while talk.stance.standing == "on":
        talk = talk_behind(talk, said_letter(talk.stance, lies))
    return (talk.stance.standing, paper_of(talk))


def paper_fault(question, paper):
    """None where the looker says yes with the last letter, else the number of the first wrong or lacking one."""
    letters, coins = paper
    talk = first_talk(question, coins)
    for at, letter in enumerate(letters):
        if talk.stance.standing != "on":
            return at
        try:
            talk = talk_behind(talk, letter)
        except BadLetter:
            return at
        if talk.stance.standing == "no":
            return at
    return None if talk.stance.standing == "yes" else len(letters)
