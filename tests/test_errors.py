import unittest

from weaklook import errors

LOOK = (
    "BadPrime", "BadRest", "NoBack", "BadLine", "BadTable", "BadPlace", "BadSquare", "BadText", "BadSaying",
    "BadQuestion", "BadCoins", "BadLetter", "TooMany", "BadName", "BadPage",
)
HALL = ("NoTalk", "Taken", "Full", "Over", "Nothing", "Stopped")


def named(name):
    return getattr(errors, name)


class Families(unittest.TestCase):
    def test_the_two_heads(self):
        self.assertEqual(errors.LookError.__bases__, (ValueError,))
        self.assertEqual(errors.HallError.__bases__, (LookupError,))

    def test_each_straight_under_its_head(self):
        for name in LOOK:
            with self.subTest(name):
                self.assertEqual(named(name).__bases__, (errors.LookError,))
        for name in HALL:
            with self.subTest(name):
                self.assertEqual(named(name).__bases__, (errors.HallError,))

    def test_none_under_another_one(self):
        for one in LOOK + HALL:
            for other in LOOK + HALL:
                if one != other:
                    self.assertFalse(issubclass(named(one), named(other)), (one, other))
        self.assertFalse(issubclass(errors.LookError, LookupError))
        self.assertFalse(issubclass(errors.HallError, ValueError))

    def test_no_other_classes(self):
        found = [name for name, thing in vars(errors).items() if isinstance(thing, type)]
        self.assertEqual(sorted(found), sorted(LOOK + HALL + ("LookError", "HallError")))


class Fields(unittest.TestCase):
    def test_word_is_the_name(self):
        for name in LOOK + HALL + ("LookError", "HallError"):
            with self.subTest(name):
                self.assertEqual(named(name).__name__, name)
                self.assertEqual(named(name)().word, name)
                self.assertTrue(str(named(name)()))

    def test_word_stays_with_a_message(self):
        for name in LOOK + HALL + ("LookError", "HallError"):
            if name not in ("BadText", "BadPage", "Stopped"):
                with self.subTest(name):
                    made = named(name)("why so")
                    self.assertEqual((made.word, str(made)), (name, "why so"))

    def test_at_of_bad_text(self):
        made = errors.BadText(7)
        self.assertEqual((made.word, made.at), ("BadText", 7))
        self.assertEqual(errors.BadText().at, 0)

    def test_row_of_bad_page(self):
        made = errors.BadPage(4)
        self.assertEqual((made.word, made.row), ("BadPage", 4))
        self.assertEqual(errors.BadPage().row, 0)

    def test_at_and_kind_of_stopped(self):
        made = errors.Stopped(3, "NoTalk")
        self.assertEqual((made.word, made.at, made.kind), ("Stopped", 3, "NoTalk"))
        self.assertEqual((errors.Stopped().at, errors.Stopped().kind), (0, ""))

    def test_caught_by_the_head(self):
        with self.assertRaises(errors.LookError) as caught:
            raise errors.BadCoins()
        self.assertEqual(caught.exception.word, "BadCoins")
        with self.assertRaises(errors.HallError) as caught:
            raise errors.Over()
        self.assertEqual(caught.exception.word, "Over")


if __name__ == "__main__":
    unittest.main()
