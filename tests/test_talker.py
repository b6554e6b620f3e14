import copy
import itertools
import random
import unittest

from weaklook.errors import BadCoins, Over
from weaklook.looker import Looker
from weaklook.questions import (coins_of, course, is_true, opening_of, product_question, roads_question,
                                saying_question)
from weaklook.rests import PRIMES
from weaklook.talker import Talker
from weaklook.tongue import read_saying
from tests.helping import GREAT, Checks, methods, same_kinds, signature, spoil
from tests.slow_talk import SlowTalk, at_rest, some_coins, some_product, some_questions, some_roads
from tests.test_squares import some_square

CASES = {
    "true", "sum", "mend 0", "mend", "mend nought", "all first", "all second", "all none", "some first", "some second",
    "some none", "split first", "split second", "split none",
}


def opened(question, coins, **named):
    return Talker(question, opening=coins[:opening_of(question)], **named)


def sparse_roads(many, seed):
    """Roads of webs with many noughts, with right claims and wrong ones."""
    chance = random.Random(seed)
    for turn in range(many):
        prime, side = chance.choice((3, 5, 7)), chance.choice((2, 4))
        web = [[chance.choice((0, 0, 0, 1, 2)) for column in range(side)] for row in range(side)]
        length, start, goal = chance.randint(2, 8), chance.randrange(side), chance.randrange(side)
        yield roads_question(web, length, start, goal, chance.randrange(prime), prime=prime)


def many_questions(seed):
    yield from some_questions(seed=seed)
    yield from some_questions(seed=seed, primes=(5, 3, 11), sayings=60)
    yield from sparse_roads(60, seed)


class TalkerChecks(Checks):
    def is_true_letter(self, letter, slow):
        """It is the one line of no more than the told degree, or the pair, that is as it ought to be."""
        word, many = slow.awaits()
        self.assertIs(type(letter), tuple)
        self.assertEqual(len(letter), many)
        self.assertTrue(all(type(rest) is int and 0 <= rest < slow.prime for rest in letter))
        if word == "split":
            self.assertEqual(letter, slow.true_pair())
        else:
            # As many worths as rests make it that one line; one more, that it ought to be of this degree.
            for t in range(min(slow.prime, many + 1)):
                self.assertEqual(at_rest(letter, t, slow.prime), slow.ought_at(t), (slow.question, t))
        return letter


class Interface(TalkerChecks, unittest.TestCase):
    def test_names(self):
        self.assertLessEqual({"letter", "hear"}, methods(Talker))
        self.assertEqual(signature(Talker.__init__)[1:], [
            ("question", "place", None), ("opening", "name", ()), ("lies", "name", False)])
        self.assertEqual(signature(Talker.hear)[1:], [("coins", "place", None)])
        self.assertEqual(signature(Talker.letter)[1:], [])

    def test_by_name(self):
        question = some_product(2, 7, wrong=1)
        talker = Talker(question=question, opening=[3, 4], lies=False)
        self.assertEqual(talker.letter(), Talker(question, opening=(3, 4)).letter())
        self.assertIsNone(talker.hear(coins=[1]))
        for things in ((question, [3, 4]), (question, [3, 4], True)):
            with self.assertRaises(TypeError):
                Talker(*things)

    def test_lies_and_opening_left_out(self):
        question = some_roads(2, 7, 2, wrong=1)
        self.assertEqual(Talker(question).letter(), Talker(question, opening=(), lies=False).letter())
        self.assertEqual(Talker(question).letter(), Talker(question, opening=[]).letter())
        self.assertNotEqual(Talker(question).letter(), Talker(question, lies=True).letter())


class TrueLetters(TalkerChecks, unittest.TestCase):
    def test_each_is_as_it_ought_to_be(self):
        seen = set()
        for question in many_questions(1):
            coins = some_coins(question, coins_of(question))
            talker, slow = opened(question, coins), SlowTalk(question, coins)
            while slow.stand == "on":
                seen.add((slow.awaits(), is_true(question)))
                letter = self.is_true_letter(talker.letter(), slow)
                self.tells(letter, talker.letter)
                self.assertIsNone(talker.hear(slow.hear(letter, let_by=True)))
            # Behind a true letter all is as it ought to be, so nothing is wrong but the first claim.
            self.assertEqual(slow.heard, len(course(question)) if slow.heard else 0)
            self.refuses(Over, talker.letter)
        turns = [("sum", 3), ("all", 2), ("some", 2), ("split", 2)] + [("mend", many) for many in range(1, 6)]
        self.assertEqual(seen, set(itertools.product(turns, (True, False))))

    def test_true_claims_are_let_by(self):
        for question in many_questions(2):
            if is_true(question):
                coins = some_coins(question, coins_of(question), 4)
                for lies in (False, True):
                    talker, looker = opened(question, coins, lies=lies), Looker(question, coins)
                    while looker.awaits():
                        talker.hear(looker.hear(talker.letter()))
                    self.assertEqual(looker.stand(), "yes")

    def test_every_prime(self):
        for prime in PRIMES:
            for question in (some_product(4, prime), some_roads(4, prime, 3),
                             saying_question(read_saying("some x all y : x & y | !y & x"), 1, prime=prime)):
                coins = some_coins(question, coins_of(question), prime)
                talker, slow = opened(question, coins), SlowTalk(question, coins)
                while slow.stand == "on":
                    talker.hear(slow.hear(self.is_true_letter(talker.letter(), slow)))
                self.assertEqual(slow.stand, "yes")

    def test_noughts_at_the_end_stay(self):
        nought = [[0, 0], [0, 0]]
        talker = Talker(product_question(nought, nought, nought), opening=[1, 2])
        self.tells((0, 0, 0), talker.letter)
        self.tells((0, 0, 0), Talker(roads_question(nought, 2, 0, 0, 0)).letter)
        question = saying_question(read_saying("all x all y : x | !x"), 1)
        talker = Talker(question)
        for letter in ((1, 0), (1, 0, 0), (1, 0)):
            self.tells(letter, talker.letter)
            talker.hear([5])

    def test_by_hand(self):
        # The tables are -1 and 2 ahead, 4 and 6 behind: 3 m less 1, times 2 m and 4.
        question = product_question([[1, 0], [0, 1]], [[1, 2], [3, 4]], [[0, 0], [0, 0]], prime=11)
        self.tells((7, 10, 6), Talker(question, opening=[2, 3]).letter)
        # One step from 0: 1 and 1; two steps to 1: 1 and 1.
        talker = Talker(roads_question([[1, 1], [1, 0]], 3, 0, 1, 2, prime=7))
        self.tells((1, 0, 0), talker.letter)
        talker.hear([3])
        self.tells((1, 1), talker.letter)
        talker.hear([])
        self.tells((1, 3, 3), talker.letter)
        # For some x it holds at 0 and at 1; what is mended is nought, and x, for all y.
        talker = Talker(saying_question(read_saying("some x all y : x"), 1, prime=7))
        self.tells((0, 1), talker.letter)
        talker.hear([3])
        self.tells((0, 0, 1), talker.letter)
        talker.hear([4])
        self.tells((4, 0), talker.letter)
        talker.hear([5])
        self.tells((0, 1), talker.letter)
        talker.hear([6])
        self.tells((6,), talker.letter)

    def test_letters_hang_on_the_coins_alone(self):
        for one, other in ((some_product(4, 7), some_product(4, 7, wrong=2)),
                           (some_roads(4, 7, 5), some_roads(4, 7, 5, wrong=3))):
            coins = some_coins(one, coins_of(one))
            left = coins[opening_of(one):]
            talkers = opened(one, coins), opened(other, coins)
            for word, many in course(one):
                told = [] if word == "split" else [left.pop(0)]
                self.assertEqual(talkers[0].letter(), talkers[1].letter())
                talkers[0].hear(told)
                talkers[1].hear(told)


class Lies(TalkerChecks, unittest.TestCase):
    def true_letter_at(self, question, coins, said):
        """What a true talker says behind the same coins."""
        talker = opened(question, coins)
        left = list(coins[opening_of(question):])
        for word, many in course(question)[:said]:
            talker.hear([] if word == "split" else [left.pop(0)])
        return talker.letter()

    def test_each_case(self):
        cases = set()
        for seed in (1, 2):
            for question in many_questions(seed):
                coins = some_coins(question, coins_of(question), seed)
                talker, slow = opened(question, coins, lies=True), SlowTalk(question, coins)
                while slow.stand == "on":
                    true = self.is_true_letter(self.true_letter_at(question, coins, slow.heard), slow)
                    wanted, case = slow.lie_from(true)
                    cases.add(case)
                    letter = talker.letter()
                    self.assertTrue(same_kinds(wanted, letter), f"{question} {case}: {letter}, not {wanted}")
                    self.tells(letter, talker.letter)
                    # A liar's letter is always right by the claim.
                    self.assertEqual(slow.claim_of(letter), slow.claims[-1])
                    self.assertIsNone(talker.hear(slow.hear(letter)))
                self.refuses(Over, talker.letter)
        self.assertEqual(cases, CASES)

    def test_a_sum(self):
        # The true letter (7, 10, 6) has 7 and 23 = 1 at 0 and 1; nought is claimed, so w is -8 = 3.
        question = product_question([[1, 0], [0, 1]], [[1, 2], [3, 4]], [[0, 0], [0, 0]], prime=11)
        self.tells((7, (10 + 6) % 11, 6 - 3), Talker(question, opening=[2, 3], lies=True).letter)

    def test_words(self):
        for text, claim, wanted in (
                ("all x : x | !x", 0, (1, 6)), ("all x : x", 1, (1, 0)), ("all x : !x", 1, (1, 0)),
                ("all x : x & !x", 1, (1, 0)), ("some x : x & !x", 1, (0, 1)), ("some x : x", 0, (0, 0)),
                ("some x : !x", 0, (0, 0)), ("some x : x | !x", 0, (0, 0))):
            question = saying_question(read_saying(text), claim, prime=7)
            self.tells(wanted, Talker(question, lies=True).letter)

    def test_mends(self):
        # The wrong claim 1 of all x: the true line is x, the liar's 1 throughout.
        question = saying_question(read_saying("all x : x"), 1, prime=7)
        talker = Talker(question, lies=True)
        talker.hear([3])
        # 3 ought to be, so w is 5: x and 5 times x over 3, so 5 x.
        self.tells((0, 5), talker.letter)
        talker = Talker(question, lies=True)
        talker.hear([0])
        # Nought ought to be and w is 1: x and (x less 1) over -1, so 1.
        self.tells((1, 0), talker.letter)
        talker = Talker(saying_question(read_saying("all x all y : x"), 1, prime=7), lies=True)
        for coin in (3, 3, 2, 4):
            talker.hear([coin])
        # What is claimed of y, of degree 0, is told as it is claimed.
        self.assertEqual(len(talker.letter()), 1)

    def test_a_split(self):
        # In a web of one road from 0 to 1 no road of two steps begins or ends.
        web = [[0, 1], [0, 0]]
        talker = Talker(roads_question(web, 2, 0, 1, 3, prime=7), lies=True)
        # The true line is m times (1 less m), the lie 3 times (2 x less its square) more.
        self.tells((0, 0, 3), talker.letter)
        talker.hear([1])
        # At 1 the first half has 1, the second one nought, and the claim is 3.
        self.tells((1, 3), talker.letter)
        talker = Talker(roads_question(web, 2, 0, 1, 3, prime=7), lies=True)
        talker.hear([0])
        # At 0 the claim is nought, as it ought to be.
        self.tells((0, 1), talker.letter)


class Going(TalkerChecks, unittest.TestCase):
    def test_over_behind_the_last_letter(self):
        for question, lies in itertools.product(many_questions(3), (False, True)):
            coins = some_coins(question, coins_of(question))
            talker, slow = opened(question, coins, lies=lies), SlowTalk(question, coins)
            while slow.stand == "on":
                talker.hear(list(slow.hear(talker.letter(), let_by=True)))
            for turn in range(2):
                self.refuses(Over, talker.letter)
                for told in ([], [0], (1,), [0, 0], [GREAT]):
                    self.refuses(Over, talker.hear, told)

    def test_over_behind_a_reading_that_is_not_right(self):
        # The liar bends the second half, which is read behind the first one: no more than two letters.
        talker = Talker(roads_question([[1, 1], [1, 1]], 2, 0, 0, 1, prime=7), lies=True)
        talker.hear([3])
        talker.hear([])
        self.refuses(Over, talker.letter)
        # One step and two: the first half is nought there, so it is bent, and read at once.
        talker = Talker(roads_question([[0, 0], [1, 1]], 3, 0, 0, 1, prime=7), lies=True)
        talker.hear([3])
        # The claim is 6 less 9 = 4, the second half has 3 there, and 4 over 3 is 6.
        self.tells((6, 3), talker.letter)
        talker.hear([])
        self.refuses(Over, talker.letter)
        self.refuses(Over, talker.hear, [])

    def test_roads_of_one_step_at_once(self):
        for claim, lies in itertools.product(range(7), (False, True)):
            talker = Talker(roads_question([[3, 4], [5, 6]], 1, 1, 0, claim, prime=7), lies=lies)
            self.refuses(Over, talker.letter)
            for told in ([], (), [0], [GREAT]):
                self.refuses(Over, talker.hear, told)

    def test_the_opening(self):
        for question in some_questions(primes=(3, 31), sayings=3):
            many, prime = opening_of(question), question[1]
            for other in {0, 1, 2, 3, 4, 5, 6, 7, 8, many + 1, 2 * many, coins_of(question), 200} - {many}:
                for lies in (False, True):
                    self.refuses(BadCoins, Talker, question, opening=[0] * other, lies=lies)
                    self.refuses(BadCoins, Talker, question, opening=(0,) * other, lies=lies)
            if many:
                self.refuses(BadCoins, Talker, question)
                for at, thing in itertools.product((0, many - 1), (prime, -1, GREAT, -GREAT, True)):
                    opening = [0] * many
                    opening[at] = thing
                    self.refuses(BadCoins, Talker, question, opening=opening)
                    self.refuses(BadCoins, Talker, question, opening=tuple(opening))

    def test_coins_that_are_refused_change_nothing(self):
        for question, lies in itertools.product(some_questions(primes=(3, 31), sayings=3), (False, True)):
            coins = some_coins(question, coins_of(question), 2)
            prime = question[1]
            talker, slow = opened(question, coins, lies=lies), SlowTalk(question, coins)
            while slow.stand == "on":
                letter = talker.letter()
                wrong = [[0, 0], (1, 1), [0] * 200, [0, prime]]
                wrong += [[0], (1,), [prime]] if slow.awaits()[0] == "split" else \
                    [[], (), [prime], (prime,), [-1], (GREAT,), [-GREAT], [True]]
                for told in wrong:
                    self.refuses(BadCoins, talker.hear, told)
                    self.tells(letter, talker.letter)
                talker.hear(slow.hear(letter, let_by=True))

    def test_lists_and_tuples_and_later_changes(self):
        for question, lies in itertools.product(some_questions(primes=(7,), sayings=5), (False, True)):
            coins = some_coins(question, coins_of(question), 5)
            slow = SlowTalk(question, coins)
            opening = list(coins[:opening_of(question)])
            one = Talker(question, opening=opening, lies=lies)
            other = Talker(question, opening=tuple(opening), lies=lies)
            self.assertEqual(opening, coins[:opening_of(question)])
            spoil(opening)
            while slow.stand == "on":
                letter = one.letter()
                self.tells(letter, other.letter)
                told = list(slow.hear(letter, let_by=True))
                kept = list(told)
                one.hear(told)
                self.assertEqual(told, kept)
                other.hear(tuple(told))
                spoil(told)

    def test_the_questions_squares_may_change_behind(self):
        squares = [some_square(4, seed, 7) for seed in (1, 2, 3)]
        question = product_question(*squares, prime=7)
        talker = Talker(question, opening=[1, 2, 3, 4])
        letter = talker.letter()
        before = copy.deepcopy(question)
        spoil(squares)
        self.tells(letter, talker.letter)
        self.assertEqual(question, before)


if __name__ == "__main__":
    unittest.main()
