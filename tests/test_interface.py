"""The whole interface: every refusal by a call, every call by place and by name, every default left out."""

import importlib
import inspect
import unittest

from weaklook import corners, errors, games, lines, pages, questions, rests, shares, squares, tongue, whole
from weaklook.hall import Hall
from weaklook.looker import Looker
from weaklook.talker import Talker
from tests.helping import same_kinds
from tests.test_errors import HALL, LOOK

ONE, OTHER = [[1, 2], [3, 4]], [[0, 1], [1, 1]]
THIRD = [[2, 3], [4, 7]]
SAYING = (("all", "x"), ("some", "y")), ("or", ("name", "x"), ("not", ("name", "y")))
PRODUCT = questions.product_question(ONE, OTHER, THIRD, prime=7 + 4)
ROADS = questions.roads_question(ONE, 2, 0, 1, 3, prime=3 + 4)
STEP = questions.roads_question(ONE, 1, 0, 1, 2)
SAID = questions.saying_question(SAYING, 1, prime=5)
ASKED = Hall()
ASKED.ask("a", ROADS, [3])
PAGE = pages.page(ASKED)

# Each function with its arguments by their names, those behind the star last and apart.
CALLS = (
    (rests.is_prime, {"number": 31}, {}),
    (rests.rest, {"number": -40}, {"prime": 31}),
    (rests.plus, {"one": 20, "other": 19}, {"prime": 31}),
    (rests.less, {"one": 2, "other": 19}, {"prime": 31}),
    (rests.times, {"one": 20, "other": 19}, {"prime": 31}),
    (rests.power, {"one": 20, "many": 19}, {"prime": 31}),
    (rests.back, {"one": 20}, {"prime": 31}),
    (rests.part, {"over": 6, "under": 4}, {}),
    (lines.worth, {"line": [1, 2, 30], "at": 4}, {"prime": 31}),
    (lines.added, {"one": [1, 2], "other": [3, 4, 5]}, {"prime": 31}),
    (lines.timed, {"one": [1, 2], "other": [3, 4, 5]}, {"prime": 31}),
    (lines.through, {"worths": [1, 2, 5]}, {"prime": 31}),
    (lines.roots, {"line": [30, 0, 1]}, {"prime": 31}),
    (corners.corner, {"number": 6, "letters": 3}, {}),
    (corners.weights, {"place": [2, 30]}, {"prime": 31}),
    (corners.table_worth, {"table": [1, 2, 3, 4], "place": [2, 30]}, {"prime": 31}),
    (corners.folded, {"table": [1, 2, 3, 4], "at": 30}, {"prime": 31}),
    (squares.product, {"one": ONE, "other": OTHER}, {"prime": 31}),
    (squares.raised, {"square": ONE, "many": 5}, {"prime": 31}),
    (squares.square_worth, {"square": ONE, "rows": [5], "columns": [6]}, {"prime": 31}),
    (squares.row_table, {"square": ONE, "rows": [5]}, {"prime": 31}),
    (squares.alike, {"one": ONE, "other": OTHER}, {"prime": 31}),
    (tongue.read_saying, {"text": "all x some y : x | !y"}, {}),
    (tongue.saying_text, {"saying": SAYING}, {}),
    (tongue.names_of, {"saying": SAYING}, {}),
    (tongue.degrees, {"saying": SAYING}, {}),
    (tongue.truth, {"saying": SAYING}, {}),
    (tongue.body_worth, {"saying": SAYING, "place": [5, 6]}, {"prime": 31}),
    (questions.product_question, {"one": ONE, "other": OTHER, "third": THIRD}, {"prime": 31}),
    (questions.roads_question, {"web": ONE, "length": 2, "start": 0, "goal": 1, "claim": 10}, {"prime": 31}),
    (questions.saying_question, {"saying": SAYING, "claim": 1}, {"prime": 31}),
    (questions.is_true, {"question": PRODUCT}, {}),
    (questions.course, {"question": SAID}, {}),
    (questions.coins_of, {"question": PRODUCT}, {}),
    (whole.led, {"question": ROADS, "coins": [3]}, {"lies": False}),
    (whole.paper_fault, {"question": ROADS, "paper": ((), (3,))}, {}),
    (shares.share, {"question": PRODUCT}, {}),
    (shares.counted, {"question": ROADS}, {}),
    (games.best, {"question": ROADS}, {}),
    (pages.question_text, {"question": SAID}, {}),
    (pages.page, {"hall": ASKED}, {}),
    (pages.read_page, {"text": PAGE}, {}),
)

MODULES = {
    "errors": set(LOOK + HALL + ("LookError", "HallError")), "rests": {"PRIMES", "PRIME"}, "looker": {"Looker"},
    "talker": {"Talker"}, "hall": {"Hall"},
}

REFUSALS = (
    ("BadPrime", lambda: rests.rest(5, prime=9)),
    ("BadRest", lambda: rests.plus(31, 0)),
    ("NoBack", lambda: rests.back(0)),
    ("BadLine", lambda: lines.roots([])),
    ("BadTable", lambda: corners.folded([1], 0)),
    ("BadPlace", lambda: corners.corner(8, 3)),
    ("BadSquare", lambda: squares.product(ONE, [[1]])),
    ("BadText", lambda: tongue.read_saying("all x : y")),
    ("BadSaying", lambda: tongue.truth(((), ("name", "x")))),
    ("BadQuestion", lambda: questions.roads_question(ONE, 9, 0, 0, 0)),
    ("BadCoins", lambda: Looker(ROADS, [])),
    ("BadCoins", lambda: Talker(PRODUCT)),
    ("BadCoins", lambda: whole.led(PRODUCT, [])),
    ("BadCoins", lambda: whole.paper_fault(PRODUCT, ((), ()))),
    ("BadLetter", lambda: Looker(ROADS, [3]).hear([1])),
    ("TooMany", lambda: shares.counted(questions.saying_question(SAYING, 1))),
    ("TooMany", lambda: games.best(SAID)),
    ("TooMany", lambda: squares.alike(ONE, OTHER, prime=61)),
    ("BadName", lambda: Hall().ask("", STEP, [])),
    ("BadPage", lambda: pages.read_page("\n")),
    ("NoTalk", lambda: Hall().speak("a")),
    ("Taken", lambda: ASKED.ask("a", STEP, [])),
    ("Full", lambda: eight().ask("i", STEP, [])),
    ("Over", lambda: Looker(STEP, []).hear([1])),
    ("Over", lambda: Talker(STEP).letter()),
    ("Nothing", lambda: Hall().undo()),
    ("Stopped", lambda: Hall().many([("leave", "a")])),
)


def eight():
    hall = Hall()
    for name in "abcdefgh":
        hall.ask(name, STEP, [])
    return hall


class Functions(unittest.TestCase):
    def test_by_place_and_by_name(self):
        for function, things, behind in CALLS:
            with self.subTest(function.__name__):
                wanted = function(*things.values(), **behind)
                self.assertTrue(same_kinds(wanted, function(**things, **behind)))
                self.assertTrue(same_kinds(wanted, function(**dict(reversed(things.items())), **behind)))
                for many in range(len(things)):
                    first = list(things.values())[:many]
                    named = {name: things[name] for name in list(things)[many:]}
                    self.assertTrue(same_kinds(wanted, function(*first, **named, **behind)))

    def test_what_has_a_default_left_out(self):
        for function, things, behind in CALLS:
            with self.subTest(function.__name__):
                self.assertTrue(same_kinds(function(*things.values()), function(*things.values(), **behind)))

    def test_what_stands_behind_the_star_by_name_alone(self):
        for function, things, behind in CALLS:
            if behind:
                with self.subTest(function.__name__), self.assertRaises(TypeError):
                    function(*things.values(), *behind.values())

    def test_all_are_there(self):
        for name in ("errors", "rests", "lines", "corners", "squares", "tongue", "questions", "looker", "talker",
                     "whole", "shares", "games", "hall", "pages"):
            module = importlib.import_module(f"weaklook.{name}")
            wanted = MODULES.get(name, set()) | {
                function.__name__ for function, things, behind in CALLS if function.__module__ == module.__name__}
            self.assertTrue(wanted)
            for each in wanted:
                self.assertTrue(hasattr(module, each), each)
                if not each.isupper():
                    self.assertEqual(getattr(module, each).__module__, module.__name__)

    def test_classes_by_place_and_by_name(self):
        self.assertEqual(Looker(ROADS, [3]).claims(), Looker(question=ROADS, coins=[3]).claims())
        self.assertEqual(Talker(ROADS).letter(), Talker(question=ROADS, opening=(), lies=False).letter())
        self.assertEqual(Hall(), Hall())


class Refusals(unittest.TestCase):
    def test_each_by_a_call(self):
        for name, call in REFUSALS:
            with self.subTest(name):
                wanted = getattr(errors, name)
                with self.assertRaises(wanted) as caught:
                    call()
                found = caught.exception
                self.assertIs(type(found), wanted)
                self.assertEqual(found.word, name)
                above = errors.LookError if name in LOOK else errors.HallError
                self.assertEqual(wanted.__bases__, (above,))
                others = [getattr(errors, other) for other in LOOK + HALL if other != name]
                self.assertFalse(any(isinstance(found, other) for other in others))

    def test_all_are_raised(self):
        self.assertEqual({name for name, call in REFUSALS}, set(LOOK + HALL))

    def test_fields(self):
        with self.assertRaises(errors.BadText) as caught:
            tongue.read_saying("all x : y")
        self.assertEqual(caught.exception.at, 8)
        with self.assertRaises(errors.BadPage) as caught:
            pages.read_page(PAGE + "talk")
        self.assertEqual(caught.exception.row, 3)
        with self.assertRaises(errors.Stopped) as caught:
            Hall().many([("ask", "a", STEP, []), ("speak", "a")])
        self.assertEqual((caught.exception.at, caught.exception.kind), (1, "Over"))

    def test_no_clock_no_chance_no_files(self):
        for name in ("hall", "games", "shares", "pages", "looker", "talker", "whole"):
            source = inspect.getsource(importlib.import_module(f"weaklook.{name}"))
            for word in ("import random", "import time", "import os", "open("):
                self.assertNotIn(word, source)


if __name__ == "__main__":
    unittest.main()
