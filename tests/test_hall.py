import copy
import itertools
import random
import unittest

from weaklook.errors import (BadCoins, BadLetter, BadName, Full, HallError, LookError, Nothing, NoTalk, Over, Stopped,
                             Taken)
from weaklook.hall import Hall
from weaklook.looker import Looker
from weaklook.questions import coins_of, course, opening_of, product_question, roads_question, saying_question
from weaklook.talker import Talker
from weaklook.tongue import read_saying
from weaklook.whole import led
from tests.helping import GREAT, Checks, methods, plain, same_kinds, spoil
from tests.slow_talk import SlowTalk, some_coins, some_product, some_questions, some_roads
from tests.test_squares import some_square

PRODUCT = some_product(2, 7, wrong=1)
ROADS = some_roads(2, 7, 3)
STEP = some_roads(2, 7, 1)
WRONG_STEP = some_roads(2, 7, 1, wrong=1)
SAYING = saying_question(read_saying("all x some y : x & y | !x & !y"), 1, prime=7)
WORD = saying_question(read_saying("some x : x & !x"), 1, prime=7)

ASKING = ("question", "stand", "awaits", "claims", "told", "paper")


def seen(hall):
    """All that a hall tells when asked."""
    talks = [[name, *(getattr(hall, question)(name) for question in ASKING)] for name in hall.names()]
    return talks, hall.past(), len(hall), repr(hall)


def small_hall():
    """Three talks: one on, one that said yes, one that said no; one deed was taken back."""
    hall = Hall()
    hall.ask("road", ROADS, [3, 5])
    hall.speak("road")
    hall.ask("step", STEP, [])
    hall.ask("wrong", PRODUCT, [3, 2, 3])
    hall.speak("wrong")
    hall.ask("gone", SAYING, [1, 2, 3, 4, 5])
    hall.undo()
    return hall


def full_hall():
    hall = Hall()
    for name in "abcdefgh":
        hall.ask(name, STEP, [])
    return hall


class SlowHall:
    """Talks as questions, coins and letters in a dict; what they tell is heard anew by a looker each time."""

    def __init__(self):
        self.talks, self.earlier, self.later = {}, [], []

    def looker(self, name):
        question, coins, letters = self.talks[name]
        looker = Looker(question, coins)
        for letter in letters:
            looker.hear(letter)
        return looker

    def spoken(self, name, lies):
        """The letter of a talker that heard the same coins and, for the claims, whatever letters were said."""
        question, coins, letters = self.talks[name]
        slow = SlowTalk(question, coins)
        for letter in letters:
            slow.hear(letter)
        talker = Talker(question, opening=coins[:opening_of(question)])
        left = list(coins[opening_of(question):])
        for word, many in course(question)[:len(letters)]:
            talker.hear([] if word == "split" else [left.pop(0)])
        return slow.lie_from(talker.letter())[0] if lies else talker.letter()

    def do(self, deed):
        word, name = deed[:2]
        talks, told = dict(self.talks), None
        if word == "ask":
            Looker(deed[2], deed[3])
            talks[name] = (deed[2], tuple(deed[3]), ())
        elif word == "leave":
            del talks[name]
        else:
            letter = deed[2] if word == "say" else self.spoken(name, word == "lie")
            told = self.looker(name).hear(letter)
            question, coins, letters = talks[name]
            talks[name] = (question, coins, letters + (tuple(letter),))
        self.earlier.append(self.talks)
        self.later, self.talks = [], talks
        return told

    def seen(self):
        talks, on = [], 0
        for name in sorted(self.talks):
            question, coins, letters = self.talks[name]
            looker = self.looker(name)
            on += looker.stand() == "on"
            talks.append([name, question, looker.stand(), looker.awaits(), looker.claims(), looker.told(),
                          (letters, coins)])
        return (talks, (len(self.earlier), len(self.later)), len(talks), f"Hall({len(talks)} talks, {on} on)")


class HallChecks(Checks):
    def refuses_deed(self, error, hall, *deed):
        """Refused by the method and by do, alone and among many; nothing is changed."""
        before = copy.deepcopy(seen(hall))
        word, *things = deed
        self.refuses(error, getattr(hall, word), *things)
        self.refuses(error, hall.do, deed)
        with self.assertRaises(Stopped) as caught:
            hall.many([deed])
        self.assertEqual((caught.exception.at, caught.exception.kind), (0, error.__name__))
        self.tells(before, seen, hall)

    def looks(self, hall, slow):
        self.assertTrue(same_kinds(slow.seen(), seen(hall)), f"{seen(hall)}, not {slow.seen()}")


class Interface(HallChecks, unittest.TestCase):
    def test_names(self):
        wanted = {
            "ask": ["name", "question", "coins"], "say": ["name", "letter"], "speak": ["name"], "lie": ["name"],
            "leave": ["name"], "do": ["deed"], "many": ["deeds"], "undo": [], "redo": [], "past": [], "names": [],
            "question": ["name"], "stand": ["name"], "awaits": ["name"], "claims": ["name"], "told": ["name"],
            "paper": ["name"], "__init__": [], "__len__": [], "__repr__": [], "__eq__": ["other"],
        }
        self.assertLessEqual(set(wanted), methods(Hall))
        for name, things in wanted.items():
            self.assertEqual(plain(getattr(Hall, name)), things, name)

    def test_by_name(self):
        one, other = Hall(), Hall()
        one.ask(coins=[3, 5], question=ROADS, name="a")
        other.ask("a", ROADS, [3, 5])
        self.assertEqual(one.speak(name="a"), other.speak("a"))
        self.assertEqual(one.lie(name="a"), other.lie("a"))
        self.assertEqual(one.say(letter=[0, 0, 0], name="a"), other.say("a", [0, 0, 0]))
        for question in ASKING:
            self.assertEqual(getattr(one, question)(name="a"), getattr(other, question)("a"))
        self.assertIsNone(one.leave(name="a"))
        self.assertIsNone(one.do(deed=("ask", "b", STEP, [])))
        self.assertIsNone(one.many(deeds=[("leave", "b")]))
        self.assertEqual(one, Hall())


class Deeds(HallChecks, unittest.TestCase):
    def test_each_by_its_method_and_by_do(self):
        one, other = Hall(), Hall()
        for deed, told in (
                (("ask", "a", ROADS, [3, 5]), None), (("speak", "a"), (3,)), (("lie", "a"), ()),
                (("ask", "b", PRODUCT, (0, 0, 4)), None), (("say", "b", [1, 0, 0]), None), (("leave", "a"), None)):
            self.assertEqual(one, other)
            found = getattr(one, deed[0])(*deed[1:])
            self.tells(found, other.do, deed)
            if deed[0] != "say":
                self.assertTrue(same_kinds(told, found))
            self.assertTrue(same_kinds(seen(one), seen(other)))
        self.assertEqual(one.names(), ["b"])

    def test_say_tells_what_hear_tells(self):
        chance = random.Random(41)
        for question in some_questions(primes=(3, 7), sayings=8):
            coins = some_coins(question, coins_of(question), 2)
            hall, slow = Hall(), SlowTalk(question, coins)
            hall.ask("a", question, coins)
            while slow.stand == "on":
                letter = chance.choice((slow.right_letter(chance), [0] * slow.awaits()[1]))
                self.tells(slow.hear(letter), hall.say, "a", chance.choice((list, tuple))(letter))
                self.assertEqual((hall.stand("a"), hall.claims("a"), hall.told("a"), hall.awaits("a")),
                                 (slow.stand, slow.claims, slow.told, slow.awaits()))

    def test_speak_and_lie_as_led(self):
        for question, lies in itertools.product(some_questions(primes=(3, 7, 31), sayings=8), (False, True)):
            coins = some_coins(question, coins_of(question), 3)
            hall = Hall()
            hall.ask("a", question, coins)
            while hall.stand("a") == "on":
                hall.lie("a") if lies else hall.speak("a")
            self.tells(led(question, coins, lies=lies), lambda: (hall.stand("a"), hall.paper("a")))

    def test_behind_any_letters(self):
        # True letters hang on the coins alone, lies on the claims, whatever was said to come to them.
        chance = random.Random(42)
        for turn, question in enumerate(some_questions(primes=(5, 13), sayings=10)):
            coins = some_coins(question, coins_of(question), turn)
            hall, slow = Hall(), SlowHall()
            deed = ("ask", "talk", question, coins)
            self.tells(slow.do(deed), hall.do, deed)
            while hall.stand("talk") == "on":
                fork = copy.deepcopy((hall, slow))
                for word in ("speak", "lie"):
                    other, beside = copy.deepcopy(fork)
                    self.tells(beside.do((word, "talk")), getattr(other, word), "talk")
                    self.looks(other, beside)
                talk = SlowTalk(question, coins)
                for letter in hall.paper("talk")[0]:
                    talk.hear(letter)
                deed = chance.choice((("say", "talk", talk.right_letter(chance)), ("lie", "talk")))
                self.tells(slow.do(deed), hall.do, deed)
            self.looks(hall, slow)

    def test_ask_begins_and_leave_ends(self):
        hall = Hall()
        self.assertIsNone(hall.ask("b", STEP, []))
        self.assertIsNone(hall.ask("a", WRONG_STEP, ()))
        self.tells(["a", "b"], hall.names)
        self.tells("yes", hall.stand, "b")
        self.tells("no", hall.stand, "a")
        self.assertIsNone(hall.leave("b"))
        self.tells(["a"], hall.names)
        self.assertIsNone(hall.ask("b", ROADS, [1, 2]))
        self.tells("on", hall.stand, "b")

    def test_questions_by_name(self):
        hall = small_hall()
        self.tells(["road", "step", "wrong"], hall.names)
        self.tells(ROADS, hall.question, "road")
        self.tells(PRODUCT, hall.question, "wrong")
        self.tells(("split", 2), hall.awaits, "road")
        self.tells(None, hall.awaits, "step")
        self.tells(None, hall.awaits, "wrong")
        self.tells([3], hall.told, "road")
        self.tells([3, 2], hall.told, "wrong")
        self.tells([], hall.told, "step")
        self.tells(((), ()), hall.paper, "step")
        letters, coins = hall.paper("wrong")
        self.assertEqual((len(letters), len(letters[0]), coins), (1, 3, (3, 2, 3)))
        self.tells("no", hall.stand, "wrong")
        self.tells([], hall.claims, "step")
        self.assertEqual(len(hall.claims("road")), 1)
        self.tells((5, 1), hall.past)
        self.tells(3, len, hall)
        self.tells("Hall(3 talks, 1 on)", repr, hall)

    def test_repr_and_len(self):
        hall = Hall()
        self.tells("Hall(0 talks, 0 on)", repr, hall)
        self.tells(0, len, hall)
        hall.ask("a", ROADS, [1, 2])
        self.tells("Hall(1 talks, 1 on)", repr, hall)
        hall.ask("b", ROADS, [1, 2])
        hall.ask("c", STEP, [])
        self.tells("Hall(3 talks, 2 on)", repr, hall)
        self.tells(3, len, hall)


class Refusals(HallChecks, unittest.TestCase):
    def test_names(self):
        hall = small_hall()
        for name in ("", "abcdefg", "A", "a1", "a b", " a", "a ", "a_b", "!", "a\n", "abcdefghij" * 40, "Z", "a-"):
            self.refuses_deed(BadName, hall, "ask", name, ROADS, [1, 2])
            self.refuses_deed(BadName, hall, "ask", name, ROADS, [GREAT])
        for name in ("a", "z", "abcdef", "zzzzzz", "all", "some", "talk", "coins"):
            other = Hall()
            other.ask(name, STEP, [])
            self.tells([name], other.names)

    def test_the_order_of_the_refusals_of_ask(self):
        hall = full_hall()
        self.refuses_deed(BadName, hall, "ask", "", ROADS, [1])
        self.refuses_deed(Taken, hall, "ask", "a", ROADS, [1])
        self.refuses_deed(Taken, hall, "ask", "a", ROADS, [1, 2])
        self.refuses_deed(Full, hall, "ask", "i", ROADS, [1])
        self.refuses_deed(Full, hall, "ask", "i", ROADS, [1, 2])
        hall.leave("d")
        self.refuses_deed(Taken, hall, "ask", "a", ROADS, [1])
        for coins in ([], [1], [1, 2, 3], [1, 7], [-1, 0], [GREAT, 0], (0,) * 200, (0, True)):
            self.refuses_deed(BadCoins, hall, "ask", "i", ROADS, coins)
        self.refuses_deed(BadCoins, hall, "ask", "i", STEP, [0])
        self.refuses_deed(BadCoins, hall, "ask", "i", PRODUCT, [0, 1])
        hall.ask("i", ROADS, [1, 2])
        self.refuses_deed(Full, hall, "ask", "j", ROADS, [1, 2])

    def test_eight_talks_and_a_ninth(self):
        hall = Hall()
        for many, name in enumerate("hgfedcba"):
            self.assertEqual(len(hall), many)
            hall.ask(name, STEP, [])
        self.tells(list("abcdefgh"), hall.names)
        self.refuses_deed(Full, hall, "ask", "ninth", STEP, [])
        self.tells("Hall(8 talks, 0 on)", repr, hall)
        hall.leave("c")
        hall.ask("ninth", STEP, [])
        self.tells(list("abdefgh") + ["ninth"], hall.names)

    def test_no_talk(self):
        for hall in (Hall(), small_hall()):
            for name in ("none", "gone", "", "roads", "ROAD", "abcdefghijk", "all"):
                self.refuses_deed(NoTalk, hall, "say", name, [0, 0, 0])
                self.refuses_deed(NoTalk, hall, "say", name, [GREAT])
                for word in ("speak", "lie", "leave"):
                    self.refuses_deed(NoTalk, hall, word, name)
                for question in ASKING:
                    self.refuses(NoTalk, getattr(hall, question), name)

    def test_over_ahead_of_a_bad_letter(self):
        hall = small_hall()
        for name in ("step", "wrong"):
            for letter in ([0, 0, 0], (0, 0), [], [GREAT]):
                self.refuses_deed(Over, hall, "say", name, letter)
            self.refuses_deed(Over, hall, "speak", name)
            self.refuses_deed(Over, hall, "lie", name)

    def test_bad_letters(self):
        hall = small_hall()
        for letter in ([], [0], [0, 0, 0], (7, 0), [0, -1], (GREAT, 0), [0, True], (0,) * 200):
            self.refuses_deed(BadLetter, hall, "say", "road", letter)
        hall.speak("road")
        for letter in ([], [0, 0], (0, 0, 7), [0, 0, 0, 0]):
            self.refuses_deed(BadLetter, hall, "say", "road", letter)


class Many(HallChecks, unittest.TestCase):
    ROW = [("ask", "a", ROADS, [3, 5]), ("speak", "a"), ("ask", "b", STEP, ()), ("lie", "a"), ("leave", "b")]
    WRONG = (
        (("ask", "", ROADS, [1, 2]), "BadName"), (("ask", "road", ROADS, [1, 2]), "Taken"),
        (("ask", "c", ROADS, [1]), "BadCoins"), (("say", "c", [0, 0]), "NoTalk"), (("say", "step", [0, 0]), "Over"),
        (("say", "road", [0]), "BadLetter"), (("speak", "c"), "NoTalk"), (("speak", "step"), "Over"),
        (("lie", "c"), "NoTalk"), (("lie", "wrong"), "Over"), (("leave", "c"), "NoTalk"),
    )

    def test_as_one_deed(self):
        one, other = small_hall(), small_hall()
        before = seen(one)
        self.assertIsNone(one.many(list(self.ROW)))
        for deed in self.ROW:
            other.do(deed)
        self.assertEqual(one, other)
        self.tells((6, 0), one.past)
        one.undo()
        self.assertEqual(seen(one)[0], before[0])
        self.tells((5, 1), one.past)
        one.redo()
        self.assertEqual(one, other)

    def test_no_deeds_are_no_deed(self):
        hall = small_hall()
        before = seen(hall)
        for deeds in ([], ()):
            self.assertIsNone(hall.many(deeds))
            self.tells(before, seen, hall)
        hall.redo()
        self.tells(["gone", "road", "step", "wrong"], hall.names)

    def test_one_refused_at_each_place(self):
        for (wrong, kind), at in itertools.product(self.WRONG, range(len(self.ROW) + 1)):
            hall = small_hall()
            before = copy.deepcopy(seen(hall))
            deeds = self.ROW[:at] + [wrong] + self.ROW[at:]
            for row in (deeds, deeds + [wrong], deeds[:at + 1], tuple(deeds)):
                with self.assertRaises(Stopped) as caught:
                    hall.many(row)
                found = caught.exception
                self.assertEqual((found.word, found.at, found.kind), ("Stopped", at, kind))
                self.tells(before, seen, hall)
            hall.redo()
            self.assertIn("gone", hall.names())

    def test_refused_by_what_came_ahead_in_the_row(self):
        for deeds, at, kind in (
                ([("ask", "a", STEP, []), ("ask", "a", STEP, [])], 1, "Taken"),
                ([("leave", "road"), ("speak", "road")], 1, "NoTalk"),
                ([("speak", "road"), ("speak", "road"), ("speak", "road"), ("speak", "road")], 3, "Over"),
                ([("ask", name, STEP, []) for name in "abcdef"], 5, "Full")):
            hall = small_hall()
            before = copy.deepcopy(seen(hall))
            with self.assertRaises(Stopped) as caught:
                hall.many(deeds)
            self.assertEqual((caught.exception.at, caught.exception.kind), (at, kind))
            self.tells(before, seen, hall)

    def test_one_deed_alone(self):
        one, other = small_hall(), small_hall()
        self.assertIsNone(one.many([("speak", "road")]))
        other.speak("road")
        self.assertTrue(same_kinds(seen(one), seen(other)))


class Past(HallChecks, unittest.TestCase):
    def test_nothing_at_both_ends(self):
        hall = Hall()
        self.refuses(Nothing, hall.undo)
        self.refuses(Nothing, hall.redo)
        hall.ask("a", STEP, [])
        self.refuses(Nothing, hall.redo)
        self.assertIsNone(hall.undo())
        self.refuses(Nothing, hall.undo)
        self.assertIsNone(hall.redo())
        self.refuses(Nothing, hall.redo)
        self.tells((1, 0), hall.past)

    def test_through_all_deeds_and_back(self):
        hall = Hall()
        found = [copy.deepcopy(seen(hall)[0])]
        deeds = [("ask", "a", ROADS, [3, 5]), ("ask", "b", SAYING, [1, 2, 3, 4, 5]), ("speak", "a"), ("lie", "b"),
                 ("ask", "c", PRODUCT, [0, 1, 2]), ("say", "c", [0, 0, 0]), ("leave", "a"), ("speak", "b"),
                 ("leave", "c"), ("ask", "a", STEP, [])]
        for deed in deeds:
            hall.do(deed)
            found.append(copy.deepcopy(seen(hall)[0]))
        for turn in range(3):
            for at in reversed(range(len(deeds))):
                hall.undo()
                self.assertTrue(same_kinds(seen(hall)[0], found[at]))
                self.tells((at, len(deeds) - at), hall.past)
            self.refuses(Nothing, hall.undo)
            for at in range(1, len(deeds) + 1):
                hall.redo()
                self.assertTrue(same_kinds(seen(hall)[0], found[at]))
            self.refuses(Nothing, hall.redo)

    def test_what_leaves_redo_as_it_was(self):
        hall = small_hall()
        self.tells((5, 1), hall.past)
        seen(hall)
        self.assertEqual(hall, hall)
        for refused in (lambda: hall.speak("step"), lambda: hall.ask("", STEP, []), lambda: hall.leave("none"),
                        lambda: hall.many([("leave", "road"), ("leave", "road")]), lambda: hall.say("road", [])):
            with self.assertRaises((LookError, HallError)):
                refused()
            self.tells((5, 1), hall.past)
        hall.many([])
        self.tells((5, 1), hall.past)
        hall.redo()
        self.tells(["gone", "road", "step", "wrong"], hall.names)
        self.tells((6, 0), hall.past)

    def test_another_deed_takes_redo_away(self):
        for deed in (("speak", "road"), ("lie", "road"), ("leave", "step"), ("ask", "new", STEP, []),
                     ("say", "road", (0, 0))):
            for do in (lambda hall, deed: hall.do(deed), lambda hall, deed: hall.many([deed])):
                hall = small_hall()
                do(hall, deed)
                self.tells((6, 0), hall.past)
                self.refuses(Nothing, hall.redo)

    def test_ninety_deeds(self):
        hall = Hall()
        for turn in range(30):
            hall.ask("a", ROADS, [turn % 7, 5])
            hall.speak("a")
            hall.leave("a")
        self.tells((90, 0), hall.past)
        for turn in range(90):
            hall.undo()
        self.tells((0, 90), hall.past)
        self.assertEqual(hall, Hall())
        for turn in range(89):
            hall.redo()
        self.tells((89, 1), hall.past)
        self.tells([29 % 7], hall.told, "a")
        hall.redo()
        self.assertEqual(hall, Hall())

    def test_told_coins_stay_where_a_letter_is_taken_back(self):
        hall = Hall()
        hall.ask("a", ROADS, [3, 5])
        self.tells((3,), hall.say, "a", Talker(ROADS).letter())
        hall.undo()
        self.tells([], hall.told, "a")
        self.tells((3,), hall.lie, "a")
        hall.undo()
        self.tells((3,), hall.speak, "a")
        hall.speak("a")
        self.tells((5,), hall.speak, "a")
        hall.undo()
        self.tells((5,), hall.lie, "a")
        self.tells([3, 5], hall.told, "a")

    def test_many_deeds_by_chance(self):
        for seed in range(6):
            self.goes_as_the_slow_one(random.Random(seed))

    def goes_as_the_slow_one(self, chance):
        hall, slow = Hall(), SlowHall()
        questions = [PRODUCT, ROADS, STEP, WRONG_STEP, SAYING, WORD, some_roads(4, 5, 4, 1), some_product(4, 3)]
        for turn in range(60):
            word = chance.choice(("ask", "ask", "say", "speak", "speak", "lie", "lie", "leave", "undo", "redo"))
            free = [name for name in "abcdefghij" if name not in slow.talks]
            going = [name for name in slow.talks if slow.looker(name).stand() == "on"]
            if word == "undo" and slow.earlier:
                hall.undo()
                slow.later.append(slow.talks)
                slow.talks = slow.earlier.pop()
            elif word == "redo" and slow.later:
                hall.redo()
                slow.earlier.append(slow.talks)
                slow.talks = slow.later.pop()
            elif word == "ask" and len(slow.talks) < 8:
                question = chance.choice(questions)
                coins = some_coins(question, coins_of(question), turn)
                deed = ("ask", chance.choice(free), question, coins)
                self.tells(slow.do(deed), hall.do, deed)
            elif word == "leave" and slow.talks and chance.random() < 0.5:
                deed = ("leave", chance.choice(sorted(slow.talks)))
                self.tells(slow.do(deed), hall.do, deed)
            elif word in ("say", "speak", "lie") and going:
                name = chance.choice(going)
                many, prime = hall.awaits(name)[1], hall.question(name)[1]
                letter = [chance.randrange(prime) for thing in range(many)]
                deed = ("say", name, letter) if word == "say" else (word, name)
                self.tells(slow.do(deed), hall.do, deed)
            self.looks(hall, slow)


class Equals(HallChecks, unittest.TestCase):
    def same(self, one, other):
        self.assertIs(one == other, True)
        self.assertIs(one != other, False)

    def unlike(self, one, other):
        self.assertIs(one == other, False)
        self.assertIs(one != other, True)
        self.assertIs(other == one, False)

    def asked(self, *talks):
        hall = Hall()
        for talk in talks:
            hall.ask(*talk)
        return hall

    def test_unlike_orders(self):
        talks = [("a", ROADS, [1, 2]), ("b", STEP, []), ("c", SAYING, (1, 2, 3, 4, 5))]
        for one, other in itertools.product(itertools.permutations(talks), repeat=2):
            self.same(self.asked(*one), self.asked(*other))

    def test_unlike_talks(self):
        talk = ("a", ROADS, [1, 2])
        one = self.asked(talk)
        kind, prime, web, length, start, goal, claim = ROADS
        for question in (roads_question(web, length, start, goal, (claim + 1) % 7, prime=7),
                         roads_question(web, length, start, goal, claim, prime=11),
                         roads_question(web, length, 1 - start, goal, claim, prime=7)):
            self.unlike(one, self.asked(("a", question, [1, 2])))
        for coins in ([1, 3], [2, 2], [2, 1]):
            self.unlike(one, self.asked(("a", ROADS, coins)))
        self.same(one, self.asked(("a", ROADS, (1, 2))))
        self.unlike(one, self.asked(("b", ROADS, [1, 2])))
        self.unlike(one, self.asked(talk, ("b", ROADS, [1, 2])))
        self.unlike(one, Hall())
        self.unlike(one, self.asked(("a", STEP, [])))

    def test_unlike_letters(self):
        one, other = self.asked(("a", ROADS, [1, 2])), self.asked(("a", ROADS, [1, 2]))
        one.speak("a")
        self.unlike(one, other)
        other.say("a", list(one.paper("a")[0][0]))
        self.same(one, other)
        one, other = self.asked(("a", ROADS, [1, 2])), self.asked(("a", ROADS, [1, 2]))
        claim = ROADS[6]
        one.say("a", [0, claim, 0])
        other.say("a", [0, 0, claim])
        self.unlike(one, other)

    def test_nothing_else(self):
        hall = Hall()
        for other in (None, 0, "", "Hall(0 talks, 0 on)", [], {}, (), False, object(), Looker(STEP, [])):
            self.unlike(hall, other)
        self.same(hall, Hall())
        self.same(hall, hall)

    def test_behind_undo_and_redo(self):
        one, other = self.asked(("a", ROADS, [1, 2])), self.asked(("a", ROADS, [1, 2]))
        one.speak("a")
        one.undo()
        self.same(one, other)
        one.redo()
        self.unlike(one, other)
        other.speak("a")
        self.same(one, other)
        other.leave("a")
        self.same(other, Hall())


class Kept(HallChecks, unittest.TestCase):
    def test_handed_lists_may_change_behind(self):
        squares = [some_square(2, seed, 7) for seed in (1, 2, 3)]
        question = product_question(*squares, prime=7)
        web = some_square(4, 3, 7)
        roads = roads_question(web, 3, 0, 1, 2, prime=7)
        coins, more, letter = [1, 2, 3], [1, 2, 3, 4], [0, 2, 0]
        deeds = [("ask", "b", roads, more), ["say", "b", letter]]
        hall = Hall()
        hall.ask("a", question, coins)
        hall.many(deeds)
        before = copy.deepcopy(seen(hall))
        for thing in (squares, web, coins, more, letter, deeds):
            spoil(thing)
        self.tells(before, seen, hall)
        hall.undo()
        hall.redo()
        self.assertTrue(same_kinds(seen(hall)[0], before[0]))

    def test_said_lists_may_change_behind(self):
        hall = small_hall()
        letter = [2, 3]
        deed = ("say", "road", letter)
        hall.do(deed)
        before = copy.deepcopy(seen(hall))
        letter[0] = 5
        letter.append(1)
        self.tells(before, seen, hall)
        hall.undo()
        hall.redo()
        self.assertTrue(same_kinds(seen(hall)[0], before[0]))

    def test_what_is_handed_in_stays(self):
        coins, letter = [3, 5], [1, 2, 3]
        deeds = [("ask", "a", ROADS, coins), ("say", "a", letter)]
        kept = copy.deepcopy(deeds)
        Hall().many(deeds)
        self.assertTrue(same_kinds(deeds, kept))

    def test_told_lists_may_change(self):
        hall = small_hall()
        before = copy.deepcopy(seen(hall))
        for name in hall.names():
            for question in ASKING:
                spoil(getattr(hall, question)(name))
        spoil(hall.names())
        spoil(hall.past())
        self.tells(before, seen, hall)

    def test_asking_changes_nothing(self):
        hall = small_hall()
        before = copy.deepcopy(seen(hall))
        for turn in range(3):
            self.tells(before, seen, hall)

    def test_two_halls_know_nothing_of_each_other(self):
        one, other = Hall(), Hall()
        one.ask("a", STEP, [])
        self.tells([], other.names)
        self.tells((0, 0), other.past)


if __name__ == "__main__":
    unittest.main()
