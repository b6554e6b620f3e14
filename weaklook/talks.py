"""Talks as a looker has them: question, coins, the letters heard and the stance; none is ever changed."""

from weaklook.errors import BadCoins, BadLetter, Over
from weaklook.questions import coins_of, opening_of
from weaklook.rests import are_rests
from weaklook.stances import coins_behind, first_stance, is_right, let_by, turned_down


class Talk:
    """What was asked, all coins, the letters heard, the stance behind them, and how many coins are known by then."""

    def __init__(self, asked, coins, letters, stance, known):
        self.asked = asked
        self.coins = coins
        self.letters = letters
        self.stance = stance
        self.known = known


def need_coins(coins, many, prime):
    """Refuse what are not so many coins by the prime."""
    if not are_rests(coins, prime) or len(coins) != many:
        raise BadCoins(f"the coins are {many} rests by {prime}")


def need_going_on(stance):
    """Refuse to go on where no letter is awaited."""
    if stance.standing != "on":
        raise Over("no letter is awaited")


def need_letter(stance, letter):
    """Refuse a letter of another form than the awaited one."""
    word, many = stance.scene.turn()
    if not are_rests(letter, stance.scene.prime) or len(letter) != many:
        raise BadLetter(f"the awaited {word} is {many} rests by {stance.scene.prime}")


def first_talk(question, coins):
    """The talk ahead of the first letter."""
    need_coins(coins, coins_of(question), question[1])
    coins = tuple(coins)
    known = opening_of(question)
    return Talk(question, coins, (), first_stance(question, coins[:known]), known)


def talk_behind(talk, letter):
    """The talk behind the letter."""
    stance, known = talk.stance, talk.known
    need_going_on(stance)
    need_letter(stance, letter)
    letter = tuple(letter)
    if is_right(stance, letter):
        known += coins_behind(stance)
        stance = let_by(stance, letter, talk.coins[talk.known:known])
    else:
        stance = turned_down(stance)
    return Talk(talk.asked, talk.coins, talk.letters + (letter,), stance, known)


def awaited(talk):
    """The form of the awaited letter, or None."""
    return talk.stance.scene.turn() if talk.stance.standing == "on" else None


def paper_of(talk):
    """The letters heard and all coins."""
    return (talk.letters, talk.coins)


def told_since(talk, known):
    """The coins that were told behind the first ones that were known."""
    return talk.coins[known:talk.known]
