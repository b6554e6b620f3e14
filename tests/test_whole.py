import copy
import itertools
import random
import time
import unittest

from weaklook.errors import BadCoins
from weaklook.looker import Looker
from weaklook.questions import (coins_of, course, is_true, opening_of, product_question, roads_question,
                                saying_question)
from weaklook.talker import Talker
from weaklook.tongue import degrees, read_saying
from weaklook.whole import led, paper_fault
from tests.helping import GREAT, Checks, same_kinds, signature, spoil
from tests.slow_talk import SlowTalk, some_coins, some_product, some_questions, some_roads
from tests.test_squares import some_square


def slow_led(question, coins, lies):
    """A looker and a talker of the interface, one behind the other."""
    looker = Looker(question, coins)
    talker = Talker(question, opening=coins[:opening_of(question)], lies=lies)
    letters = []
    while looker.awaits() is not None:
        letters.append(talker.letter())
        told = looker.hear(letters[-1])
        if looker.stand() == "on":
            talker.hear(told)
    return looker.stand(), (tuple(letters), tuple(coins))


def slow_fault(question, letters, coins):
    """Straight from the words."""
    slow = SlowTalk(question, coins)
    if not letters and slow.stand != "on":
        return None if slow.stand == "yes" else 0
    for at, letter in enumerate(letters):
        if slow.stand != "on" or len(letter) != slow.awaits()[1]:
            return at
        if any(type(thing) is not int or not 0 <= thing < slow.prime for thing in letter):
            return at
        slow.hear(letter)
        if slow.stand == "no":
            return at
    return None if slow.stand == "yes" else len(letters)


def listed(paper):
    letters, coins = paper
    return [list(map(list, letters)), list(coins)]


def wrong_coins(question):
    many, prime = coins_of(question), question[1]
    for other in {0, 1, many - 1, many + 1, 200} - {many, -1}:
        yield [0] * other
    for at, thing in itertools.product({0, many - 1}, (prime, -1, GREAT, -GREAT, True)):
        if many:
            coins = [0] * many
            coins[at] = thing
            yield coins


class Interface(unittest.TestCase):
    def test_names(self):
        self.assertEqual(signature(led), [("question", "place", None), ("coins", "place", None),
                                          ("lies", "name", False)])
        self.assertEqual(signature(paper_fault), [("question", "place", None), ("paper", "place", None)])

    def test_by_name(self):
        question = some_roads(2, 7, 2)
        told = led(coins=[3], question=question, lies=False)
        self.assertEqual(told, led(question, [3]))
        self.assertIsNone(paper_fault(paper=told[1], question=question))
        with self.assertRaises(TypeError):
            led(question, [3], True)


class Led(Checks, unittest.TestCase):
    def test_as_a_looker_and_a_talker_would(self):
        seen = set()
        for question, lies, seed in itertools.product(some_questions(sayings=30), (False, True), (1, 2)):
            coins = some_coins(question, coins_of(question), seed)
            wanted = slow_led(question, coins, lies)
            self.tells(wanted, led, question, coins, lies=lies)
            self.tells(wanted, led, question, tuple(coins), lies=lies)
            if not lies:
                self.tells(wanted, led, question, coins)
            seen.add((question[0], is_true(question), lies, wanted[0]))
        for kind in ("product", "roads", "saying"):
            self.assertLessEqual({(kind, True, False, "yes"), (kind, True, True, "yes"), (kind, False, False, "no"),
                                  (kind, False, True, "no"), (kind, False, True, "yes")}, seen)
            self.assertFalse({(kind, True, False, "no"), (kind, True, True, "no")} & seen)

    def test_true_claims_take_the_whole_course(self):
        for question, lies in itertools.product(some_questions(seed=2), (False, True)):
            if is_true(question):
                coins = some_coins(question, coins_of(question), 3)
                stand, (letters, told) = led(question, coins, lies=lies)
                self.assertEqual(stand, "yes")
                self.assertEqual([len(letter) for letter in letters], [many for word, many in course(question)])
                self.assertEqual(told, tuple(coins))

    def test_a_true_talker_of_a_false_claim(self):
        for question in some_questions(seed=3):
            if not is_true(question):
                coins = some_coins(question, coins_of(question), 4)
                stand, (letters, told) = led(question, coins)
                self.assertEqual(told, tuple(coins))
                if question[0] != "product":
                    # The first letter isn't right; of roads of one step there is none.
                    self.assertEqual((stand, len(letters)), ("no", min(1, len(course(question)))))
                else:
                    self.assertIn((stand, len(letters)), (("no", 1), ("yes", len(course(question)))))

    def test_a_false_product_at_places_where_all_is_right(self):
        # The third square is wrong at the last corner alone, whose weight is nought with a nought among the places.
        one, other = some_square(4, 2, 7), some_square(4, 5, 7)
        question = some_product(4, 7)
        third = [list(row) for row in question[4]]
        third[3][3] = (third[3][3] + 1) % 7
        question = product_question(question[2], question[3], third, prime=7)
        self.assertFalse(is_true(question))
        self.assertEqual(led(question, [3, 0, 4, 5, 6, 2])[0], "yes")
        self.assertEqual(led(question, [3, 2, 4, 5, 6, 2])[0], "no")
        self.assertEqual((one, other), (some_square(4, 2, 7), some_square(4, 5, 7)))

    def test_the_liar_lives_by_the_coin(self):
        # The lie is 2 x less its square times something, which is nought at 0 and 2.
        question = some_product(2, 7, wrong=1)
        for rows, columns, coin in itertools.product(range(7), repeat=3):
            slow = SlowTalk(question, [rows, columns, coin])
            wanted = "yes" if slow.claims[-1] == slow.ought() or coin in (0, 2) else "no"
            self.assertEqual(led(question, [rows, columns, coin], lies=True)[0], wanted)

    def test_bad_coins(self):
        for question in some_questions(primes=(3, 31), sayings=3):
            for coins, lies in itertools.product(wrong_coins(question), (False, True)):
                self.refuses(BadCoins, led, question, coins, lies=lies)
                self.refuses(BadCoins, led, question, tuple(coins))

    def test_handed_lists_stay(self):
        for question in some_questions(primes=(7,), sayings=3):
            coins = some_coins(question, coins_of(question))
            before = list(coins)
            stand, paper = led(question, coins)
            kept = copy.deepcopy(paper)
            self.assertEqual(coins, before)
            spoil(coins)
            self.assertTrue(same_kinds(kept, paper))


class Faults(Checks, unittest.TestCase):
    def finds(self, wanted, question, letters, coins):
        """The fault is this one, and the one that the slow talk has; lists are as good as tuples."""
        self.assertEqual(wanted, slow_fault(question, letters, coins))
        paper = (tuple(map(tuple, letters)), tuple(coins))
        for each in (paper, listed(paper), tuple(listed(paper)), (list(paper[0]), paper[1]), list(paper)):
            before = copy.deepcopy(each)
            self.tells(wanted, paper_fault, question, each)
            self.assertTrue(same_kinds(before, each))

    def test_led_papers(self):
        for question, lies in itertools.product(some_questions(sayings=30), (False, True)):
            coins = some_coins(question, coins_of(question), 6)
            stand, (letters, told) = led(question, coins, lies=lies)
            # Where it said no it did so at the last letter, or of roads of one step at once.
            wanted = None if stand == "yes" else max(0, len(letters) - 1)
            self.finds(wanted, question, letters, told)

    def test_changed_papers(self):
        chance = random.Random(11)
        for question in some_questions(primes=(3, 7, 31), sayings=8):
            if not is_true(question):
                continue
            coins = some_coins(question, coins_of(question), 7)
            letters = list(led(question, coins)[1][0])
            many, prime = len(letters), question[1]
            self.finds(None, question, letters, coins)
            for extra in ((0, 0), (0, 0, 0), (), (prime,), (0,) * 9):
                self.finds(many, question, letters + [extra], coins)
                self.finds(many, question, letters + [extra, extra], coins)
            for at in range(many):
                self.finds(at, question, letters[:at], coins)
                letter = list(letters[at])
                for other in (letter[:-1], letter + [0], [], letter * 2, [prime] + letter[1:], letter[:-1] + [-1],
                              letter[:-1] + [GREAT], [-GREAT] + letter[1:]):
                    self.finds(at, question, letters[:at] + [other] + letters[at + 1:], coins)
                bent = list(letter)
                bent[chance.randrange(len(bent))] = chance.randrange(prime)
                for changed in (letters[:at] + letters[at + 1:], letters[:at + 1] + letters[at:],
                                letters[:at] + [bent] + letters[at + 1:], letters[:at] + [bent]):
                    wanted = slow_fault(question, changed, coins)
                    self.finds(wanted, question, changed, coins)

    def test_turned_coins(self):
        chance = random.Random(12)
        found = set()
        nought = [[0] * 4] * 4
        for question in (roads_question(nought, 3, 0, 1, 0), *some_questions(primes=(3, 7), sayings=8)):
            coins = some_coins(question, coins_of(question), 8)
            letters = led(question, coins, lies=True)[1][0]
            for at in range(len(coins)):
                turned = list(coins)
                turned[at] = (turned[at] + chance.randrange(1, question[1])) % question[1]
                wanted = slow_fault(question, letters, turned)
                found.add((question[0], wanted is None))
                self.finds(wanted, question, letters, turned)
        self.assertEqual(found, set(itertools.product(("product", "roads", "saying"), (True, False))))

    def test_no_letters(self):
        web = [[3, 4], [5, 6]]
        self.finds(None, roads_question(web, 1, 1, 0, 5, prime=7), [], [])
        self.finds(0, roads_question(web, 1, 1, 0, 4, prime=7), [], [])
        for claim in (4, 5):
            for letters in ([[]], [[0, 0, 0]], [[1, 2], [3, 4]]):
                self.finds(0, roads_question(web, 1, 1, 0, claim, prime=7), letters, [])
        self.finds(0, some_roads(2, 7, 2), [], [3])
        self.finds(0, some_product(2, 7), [], [3, 4, 5])
        self.finds(0, saying_question(read_saying("all x : x"), 1, prime=7), [], [3, 4])

    def test_a_reading_that_is_not_right(self):
        question = roads_question([[1, 1], [1, 0]], 3, 0, 1, 2, prime=7)
        self.finds(1, question, [(1, 0, 0), (2, 4), (1, 3, 3), (0, 3)], [3, 5])
        self.finds(3, question, [(1, 0, 0), (1, 1), (1, 3, 3), (3, 0)], [3, 5])
        self.finds(3, question, [(1, 0, 0), (1, 1), (1, 3, 3), (3, 0), (1, 1)], [3, 5])
        self.finds(None, question, [(1, 0, 0), (1, 1), (1, 3, 3), (0, 3)], [3, 5])
        self.finds(2, question, [(1, 0, 0), (1, 1)], [3, 5])

    def test_bad_coins(self):
        for question in some_questions(primes=(3, 31), sayings=3):
            for coins in wrong_coins(question):
                for letters in ([], [[0, 0, 0]], [[GREAT]], [[]]):
                    self.refuses(BadCoins, paper_fault, question, (letters, coins))
                    self.refuses(BadCoins, paper_fault, question, [tuple(letters), tuple(coins)])


class GreatOnes(Checks, unittest.TestCase):
    def swiftly(self, question):
        """Led to its end, by a true talker and by the liar, and looked at as a paper, within a second or so each."""
        for lies in (False, True):
            coins = some_coins(question, coins_of(question), 9)
            begun = time.perf_counter()
            stand, paper = led(question, coins, lies=lies)
            self.assertEqual(paper_fault(question, paper) is None, stand == "yes")
            self.assertLess(time.perf_counter() - begun, 1.5)
            if is_true(question):
                self.assertEqual((stand, len(paper[0])), ("yes", len(course(question))))

    def test_products_of_eight_rows(self):
        for wrong in (0, 1, 5):
            self.swiftly(some_product(8, 61, wrong))

    def test_roads_of_length_eight_of_eight_knots(self):
        for wrong in (0, 1):
            question = some_roads(8, 61, 8, wrong)
            self.assertEqual((coins_of(question), len(course(question))), (21, 28))
            self.swiftly(question)

    def test_sayings_whose_names_stand_four_times(self):
        for front in ("all a some b all c some d", "some a all b some c all d"):
            for body in ("(a & b & (c | a)) & (b | c | (a & b)) | !(c & a & (b | c))",
                         "(b | d) & (d & c | b) | (c | d & !b) & (c | (d | b & c))"):
                saying = read_saying(f"{front} : {body}")
                self.assertEqual(sorted(degrees(saying)), [0, 4, 4, 4])
                for claim in (0, 1):
                    self.swiftly(saying_question(saying, claim, prime=61))
        saying = read_saying("all a some b all c some d : (a & b | c & d) & (a | b | (c | d)) | (a & b | c & d)")
        self.assertEqual(degrees(saying), (3, 3, 3, 3))
        self.swiftly(saying_question(saying, 1))


if __name__ == "__main__":
    unittest.main()
