import copy
import itertools
import random
import unittest

from weaklook.errors import BadCoins, BadLetter, Over
from weaklook.looker import Looker
from weaklook.questions import (coins_of, course, is_true, opening_of, product_question, roads_question,
                                saying_question)
from weaklook.rests import PRIMES
from weaklook.talker import Talker
from weaklook.tongue import read_saying
from tests.helping import GREAT, Checks, methods, plain, same_kinds, spoil
from tests.slow_talk import SlowTalk, some_coins, some_product, some_questions, some_roads
from tests.test_squares import SIDES, some_square


def seen(looker):
    """All that a looker tells when asked."""
    return looker.awaits(), looker.stand(), looker.claims(), looker.told(), looker.heard()


def slowly(slow):
    return slow.awaits(), slow.stand, list(slow.claims), list(slow.told), slow.heard


def true_letters(question, coins):
    """The letters of a true talker, as long as one awaits them."""
    talker = Talker(question, opening=coins[:opening_of(question)])
    left = list(coins[opening_of(question):])
    found = []
    for word, many in course(question):
        found.append(talker.letter())
        talker.hear([] if word == "split" else [left.pop(0)])
    return found


def wrong_letters(many, prime):
    """Letters of another count, or with a thing that is no rest."""
    for other in (0, 1, 2, 3, 4, 5, 6, 200):
        if other != many:
            yield [0] * other
            yield (1,) * other
    for at, thing in itertools.product({0, many - 1}, (prime, prime + 1, -1, -prime, GREAT, -GREAT, True)):
        letter = [0] * many
        letter[at] = thing
        yield letter
        yield tuple(letter)


class LookerChecks(Checks):
    def looks(self, looker, slow):
        """The looker tells what the slow one has, of the same kinds throughout."""
        wanted, found = slowly(slow), seen(looker)
        self.assertTrue(same_kinds(wanted, found), f"{slow.question}: {found}, not {wanted}")

    def hears(self, looker, slow, letter):
        wanted = slow.hear(letter)
        told = looker.hear(letter)
        self.assertTrue(same_kinds(wanted, told), f"{slow.question} {letter}: {told}, not {wanted}")
        self.looks(looker, slow)


class Interface(unittest.TestCase):
    def test_names(self):
        self.assertLessEqual({"awaits", "hear", "stand", "claims", "told", "heard"}, methods(Looker))
        self.assertEqual(plain(Looker.__init__), ["question", "coins"])
        self.assertEqual(plain(Looker.hear), ["letter"])
        for method in (Looker.awaits, Looker.stand, Looker.claims, Looker.told, Looker.heard):
            self.assertEqual(plain(method), [])

    def test_by_name(self):
        question = some_roads(2, 7, 2)
        looker = Looker(coins=[3], question=question)
        letter = true_letters(question, [3])[0]
        self.assertEqual(looker.hear(letter=letter), (3,))


class Walks(LookerChecks, unittest.TestCase):
    def test_true_letters(self):
        for question in some_questions():
            coins = some_coins(question, coins_of(question))
            left = true_letters(question, coins)
            looker, slow = Looker(question, coins), SlowTalk(question, coins)
            self.looks(looker, slow)
            while slow.stand == "on":
                self.hears(looker, slow, left.pop(0))
            if is_true(question):
                self.assertEqual((looker.stand(), left), ("yes", []))

    def test_any_letters_that_are_right(self):
        chance = random.Random(5)
        ends = set()
        for seed in range(3):
            for question in some_questions(seed=seed, primes=(3, 5, 13, 59)):
                coins = some_coins(question, coins_of(question), seed)
                looker, slow = Looker(question, coins), SlowTalk(question, coins)
                self.looks(looker, slow)
                while slow.stand == "on":
                    letter = slow.right_letter(chance)
                    self.assertEqual(slow.claim_of(letter), slow.claims[-1])
                    self.hears(looker, slow, chance.choice((list, tuple))(letter))
                ends.add((question[0], slow.stand, slow.awaits()))
        for kind, stand in itertools.product(("product", "roads", "saying"), ("yes", "no")):
            self.assertIn((kind, stand, None), ends)

    def test_letters_with_one_number_turned(self):
        chance = random.Random(6)
        found = {True: 0, False: 0}
        for question in some_questions(primes=(3, 11, 31), sayings=10):
            coins = some_coins(question, coins_of(question), 2)
            slow, said = SlowTalk(question, coins), []
            while slow.stand == "on":
                letter = slow.right_letter(chance)
                at = chance.randrange(len(letter))
                turned = list(letter)
                turned[at] = (turned[at] + chance.randrange(1, slow.prime)) % slow.prime
                looker, other = Looker(question, coins), copy.deepcopy(slow)
                for each in said:
                    looker.hear(each)
                found[slow.claim_of(turned) == slow.claims[-1]] += 1
                self.hears(looker, other, chance.choice((list, tuple))(turned))
                slow.hear(letter)
                said.append(letter)
        # A turned letter may be right, too: of a mend whose name's rest is nought, or of a split of nought.
        self.assertGreater(min(found.values()), 10)

    def test_lists_are_as_good_as_tuples(self):
        for question in some_questions(primes=(7,), sayings=5):
            coins = some_coins(question, coins_of(question))
            lookers = [Looker(question, kind(coins)) for kind in (list, tuple, list, tuple)]
            for letter in true_letters(question, coins):
                if lookers[0].stand() == "on":
                    kinds = (list, tuple, tuple, list)
                    self.assertEqual(len({looker.hear(kind(letter)) for looker, kind in zip(lookers, kinds)}), 1)
                    self.assertTrue(all(same_kinds(seen(looker), seen(lookers[0])) for looker in lookers))


class Beginnings(LookerChecks, unittest.TestCase):
    def test_a_products_places_are_told_from_the_beginning(self):
        for side, letters in SIDES.items():
            for prime in PRIMES:
                question = some_product(side, prime, wrong=1)
                coins = [(5 * at + 2) % prime for at in range(3 * letters)]
                looker = Looker(question, coins)
                self.tells(coins[:2 * letters], looker.told)
                self.tells(("sum", 3), looker.awaits)
                self.tells("on", looker.stand)
                self.tells(0, looker.heard)
                self.looks(looker, SlowTalk(question, coins))

    def test_others_tell_none_at_the_beginning(self):
        looker = Looker(some_roads(4, 7, 3), [1, 2, 3, 4])
        self.assertEqual((looker.told(), looker.awaits(), looker.heard()), ([], ("sum", 3), 0))
        question = saying_question(read_saying("some x all y : x | y"), 1, prime=7)
        looker = Looker(question, [0] * 5)
        self.assertEqual((looker.told(), looker.awaits(), looker.claims()), ([], ("some", 2), [1]))

    def test_roads_of_length_one_are_read_at_once(self):
        web = [[3, 4], [5, 6]]
        for start, goal in itertools.product((0, 1), repeat=2):
            for claim in range(7):
                looker = Looker(roads_question(web, 1, start, goal, claim, prime=7), [])
                right = web[start][goal] == claim
                wanted = (None, "yes" if right else "no", [] if right else [claim], [], 0)
                self.tells(wanted, seen, looker)
                for letter in ([], [0], [0, 0], (1, 2, 3), [GREAT]):
                    self.refuses(Over, looker.hear, letter)
                self.tells(wanted, seen, looker)


class ByHand(LookerChecks, unittest.TestCase):
    def test_a_product(self):
        # The third square's worth at (2, 3) is 1 * -1 * -2 + 2 * -1 * 3 + 3 * 2 * -2 + 4 * 2 * 3 = 8.
        question = product_question([[1, 0], [0, 1]], [[1, 2], [3, 4]], [[1, 2], [3, 4]], prime=11)
        looker = Looker(question, [2, 3, 5])
        self.tells([8], looker.claims)
        # The first square's worth at (2, m) is -1 and 2 for m of 0 and 1, the second one's at (m, 3) 4 and 6: the line
        # is 3 m less 1 times 2 m and 4, so -4, 10 and 6.
        self.tells((5,), looker.hear, [7, 10, 6])
        self.tells((None, "yes", [], [2, 3, 5], 1), seen, looker)
        looker = Looker(question, [2, 3, 5])
        # Right by the claim, but not the true line: it has 40 = 7 at 5, the squares there 14 times 14 = 9.
        self.tells((5,), looker.hear, [0, 8, 0])
        self.tells((None, "no", [7], [2, 3, 5], 1), seen, looker)
        looker = Looker(question, [2, 3, 5])
        self.tells((), looker.hear, [0, 8, 1])
        self.tells((None, "no", [8], [2, 3], 1), seen, looker)

    def test_roads(self):
        # Three steps in the web of 1, 1, 1, 0 from 0 to 1: two roads. Places (0) and (1), by 7.
        question = roads_question([[1, 1], [1, 0]], 3, 0, 1, 2, prime=7)
        looker = Looker(question, [3, 5])
        self.tells((("sum", 3), "on", [2], [], 0), seen, looker)
        # One step from 0: 1 and 1; two steps to 1, from 0: 1, from 1: 1. So the line is 1 throughout.
        self.tells((3,), looker.hear, (1, 0, 0))
        self.tells((("split", 2), "on", [1], [3], 1), seen, looker)
        # The first half, of one step, is the last claim and read at once; the other one is left.
        self.tells((), looker.hear, (1, 1))
        self.tells((("sum", 3), "on", [1], [3], 2), seen, looker)
        # From the place 3 by one step: 1 to 0 and -2 to 1; from there to 1: 1 and 0. So 1 less 3 m, times 1 less m.
        self.tells((5,), looker.hear, (1, 3, 3))
        self.tells((("split", 2), "on", [0], [3, 5], 3), seen, looker)
        # The first half is read first: its worth from 3 to 5 is -14 = 0; then the other one: -4 = 3.
        other = copy.deepcopy(looker)
        self.tells((), looker.hear, (0, 3))
        self.tells((None, "yes", [], [3, 5], 4), seen, looker)
        self.tells((), other.hear, (3, 0))
        self.tells((None, "no", [0, 3], [3, 5], 4), seen, other)

    def test_the_first_half_is_the_last_claim(self):
        question = roads_question([[1, 1], [1, 0]], 4, 0, 0, 5, prime=11)
        looker = Looker(question, [4, 1, 1])
        looker.hear([0, 5, 0])
        self.tells([9], looker.claims)
        self.tells((), looker.hear, [2, 10])
        self.tells((("sum", 3), "on", [10, 2], [4], 2), seen, looker)

    def test_the_second_half_read_behind_the_first(self):
        web = [[1, 1], [1, 0]]
        question = roads_question(web, 2, 0, 0, 2, prime=11)
        # At m = 3 both halves have (1 - 3) + 3 = 1.
        looker = Looker(question, [3])
        looker.hear([0, 2, 0])
        self.tells([6], looker.claims)
        self.tells((), looker.hear, [1, 6])
        self.tells((None, "no", [6], [3], 2), seen, looker)
        looker = Looker(question, [3])
        looker.hear([0, 2, 0])
        self.tells((), looker.hear, [6, 1])
        self.tells((None, "no", [1, 6], [3], 2), seen, looker)
        looker = Looker(question, [3])
        looker.hear([1, 0, 0])
        self.tells((), looker.hear, [1, 1])
        self.tells((None, "yes", [], [3], 2), seen, looker)

    def test_a_saying(self):
        question = saying_question(read_saying("all x some y : x & y | !x & !y"), 1, prime=7)
        looker = Looker(question, [3, 4, 5, 6, 2])
        self.tells((3,), looker.hear, [1, 0])
        self.tells((("mend", 3), "on", [1], [3], 1), seen, looker)
        # Mended by 3: -2 times 1 (at 0) and 3 times 1 (at 1) is the claim. At 4 the line has 1 + 24 + 16 = 6 by 7.
        self.tells((4,), looker.hear, [1, 6, 1])
        self.tells((("some", 2), "on", [6], [3, 4], 2), seen, looker)
        # For some: 0 and 6, less their product, are 6. At 5 the line has 30 = 2.
        self.tells((5,), looker.hear, [0, 6])
        self.tells((("mend", 3), "on", [2], [3, 4, 5], 3), seen, looker)
        # x is mended by 4 now: -3 times 0 and 4 times 4 are 2. At 6 the line has 6 + 108 = 2.
        self.tells((6,), looker.hear, [0, 1, 3])
        self.tells((("mend", 3), "on", [2], [3, 4, 5, 6], 4), seen, looker)
        # y is mended by 5: -4 times 3 and 5 times 0 are 2. At 2 the line has 3 + 8 = 4.
        self.tells((2,), looker.hear, [3, 4, 0])
        # The body at x = 6 and y = 2: 12 and -5 times -1, less their product, are -43 = 6, not 4.
        self.tells((None, "no", [4], [3, 4, 5, 6, 2], 5), seen, looker)

    def test_a_word_is_looked_at_by_its_own_law(self):
        # 1 at 0 and nought at 1: right for some of it, not for all.
        for word, told, stand in (("all", (), "no"), ("some", (2,), "on")):
            looker = Looker(saying_question(read_saying(f"{word} x : x"), 1, prime=5), [2, 3])
            self.tells(told, looker.hear, [1, 4])
            self.tells(stand, looker.stand)


class Refusals(LookerChecks, unittest.TestCase):
    def test_bad_coins(self):
        for question in some_questions(primes=(3, 31), sayings=3):
            many, prime = coins_of(question), question[1]
            for other in {0, 1, many - 1, many + 1, 2 * many + 1, opening_of(question), 200} - {many, -1}:
                self.refuses(BadCoins, Looker, question, [0] * other)
                self.refuses(BadCoins, Looker, question, (0,) * other)
            for at, thing in itertools.product({0, many - 1}, (prime, -1, GREAT, -GREAT, True)):
                if many:
                    coins = [0] * many
                    coins[at] = thing
                    self.refuses(BadCoins, Looker, question, coins)
                    self.refuses(BadCoins, Looker, question, tuple(coins))

    def test_a_letter_of_another_form_changes_nothing(self):
        chance = random.Random(7)
        for question in some_questions(primes=(3, 31), sayings=3):
            coins = some_coins(question, coins_of(question))
            looker, slow = Looker(question, coins), SlowTalk(question, coins)
            while slow.stand == "on":
                for letter in wrong_letters(slow.awaits()[1], slow.prime):
                    self.refuses(BadLetter, looker.hear, letter)
                self.looks(looker, slow)
                self.hears(looker, slow, slow.right_letter(chance))

    def test_over_behind_yes_and_no(self):
        chance = random.Random(8)
        ends = set()
        for question in some_questions(primes=(3, 7), sayings=5):
            coins = some_coins(question, coins_of(question), 3)
            looker, slow = Looker(question, coins), SlowTalk(question, coins)
            left = true_letters(question, coins)
            while slow.stand == "on":
                letter = left.pop(0) if is_true(question) else slow.right_letter(chance)
                self.hears(looker, slow, letter)
            ends.add(slow.stand)
            before = seen(looker)
            for letter in ([0, 0], (0, 0, 0), [], [GREAT], [1, 0, 0, 0], (-1, 0, 0)):
                self.refuses(Over, looker.hear, letter)
            self.tells(before, seen, looker)
        self.assertEqual(ends, {"yes", "no"})

    def test_over_behind_a_letter_that_is_not_right(self):
        chance = random.Random(10)
        for question in (some_product(4, 31), some_roads(4, 31, 5),
                         saying_question(read_saying("all x some y : x | y"), 1)):
            coins = some_coins(question, coins_of(question))
            for many in range(len(course(question))):
                looker, slow = Looker(question, coins), SlowTalk(question, coins)
                letters = true_letters(question, coins)
                for letter in letters[:many]:
                    self.hears(looker, slow, letter)
                wrong = list(letters[many])
                while slow.claim_of(wrong) == slow.claims[-1]:
                    wrong = [chance.randrange(31) for thing in wrong]
                wanted = (None, "no", looker.claims(), looker.told(), many + 1)
                self.tells((), looker.hear, wrong)
                self.tells(wanted, seen, looker)
                self.refuses(Over, looker.hear, letters[many])
                self.refuses(Over, looker.hear, [])
                self.tells(wanted, seen, looker)


class Kept(LookerChecks, unittest.TestCase):
    def test_told_lists_are_new(self):
        for question in some_questions(primes=(7,), sayings=3):
            coins = some_coins(question, coins_of(question))
            looker = Looker(question, coins)
            for letter in [None] + true_letters(question, coins):
                if letter is not None and looker.stand() == "on":
                    looker.hear(letter)
                before = copy.deepcopy(seen(looker))
                for told in (looker.claims(), looker.told()):
                    self.assertIs(type(told), list)
                    spoil(told)
                self.tells(before, seen, looker)

    def test_what_was_handed_in_may_change_behind(self):
        for kind, side in itertools.product(("product", "roads"), (2, 4)):
            squares = [some_square(side, seed, 7) for seed in (1, 2, 3)]
            if kind == "product":
                question = product_question(*squares, prime=7)
            else:
                question = roads_question(squares[0], 4, 0, 1, 5, prime=7)
            self.keeps_talk(question, squares)
        self.keeps_talk(saying_question(read_saying("all x some y : x & y | !x & !y"), 1, prime=7), [])

    def keeps_talk(self, question, squares):
        chance = random.Random(9)
        coins = some_coins(question, coins_of(question))
        slow = SlowTalk(copy.deepcopy(question), list(coins))
        handed = list(coins)
        looker = Looker(question, handed)
        spoil(handed)
        spoil(squares)
        self.looks(looker, slow)
        while slow.stand == "on":
            letter = slow.right_letter(chance)
            wanted = slow.hear(tuple(letter))
            self.assertEqual(looker.hear(letter), wanted)
            spoil(letter)
            self.looks(looker, slow)

    def test_what_is_handed_in_stays(self):
        question = some_roads(4, 7, 4)
        coins = some_coins(question, coins_of(question))
        kept, before = list(coins), copy.deepcopy(question)
        looker = Looker(question, coins)
        for letter in map(list, true_letters(question, coins)):
            same = list(letter)
            looker.hear(letter)
            self.assertEqual(letter, same)
        self.assertEqual((coins, question), (kept, before))

    def test_two_lookers_know_nothing_of_each_other(self):
        question = some_product(4, 7)
        coins = some_coins(question, coins_of(question))
        one, other = Looker(question, coins), Looker(question, coins)
        before = seen(other)
        one.hear(true_letters(question, coins)[0])
        self.tells(before, seen, other)


if __name__ == "__main__":
    unittest.main()
