import ast
import itertools
import random
import unittest

from weaklook.errors import BadPlace, BadPrime, BadSaying, BadText
from weaklook.rests import PRIMES
from weaklook.tongue import body_worth, degrees, names_of, read_saying, saying_text, truth
from tests.helping import GREAT, NO_PRIMES, Checks, places, signature

A, B, C, D = (("name", name) for name in "abcd")
FRONT = (("all", "a"), ("some", "b"), ("all", "c"), ("some", "d"))
SIGNS = "abcdefghijklmnopqrstuvwxyz :&|!()"

# Bodies of the names a, b, c and d with their texts.
BODIES = (
    (A, "a"),
    (("not", A), "!a"),
    (("not", ("not", A)), "!!a"),
    (("not", ("not", ("not", B))), "!!!b"),
    (("and", A, B), "a & b"),
    (("or", A, B), "a | b"),
    (("and", ("and", A, B), C), "a & b & c"),
    (("and", A, ("and", B, C)), "a & (b & c)"),
    (("or", ("or", A, B), C), "a | b | c"),
    (("or", A, ("or", B, C)), "a | (b | c)"),
    (("or", ("and", A, B), C), "a & b | c"),
    (("and", A, ("or", B, C)), "a & (b | c)"),
    (("and", ("or", A, B), C), "(a | b) & c"),
    (("or", A, ("and", B, C)), "a | b & c"),
    (("or", ("and", A, B), ("and", C, D)), "a & b | c & d"),
    (("and", ("or", A, B), ("or", C, D)), "(a | b) & (c | d)"),
    (("and", ("and", A, B), ("and", C, D)), "a & b & (c & d)"),
    (("or", ("or", A, B), ("or", C, D)), "a | b | (c | d)"),
    (("not", ("and", A, B)), "!(a & b)"),
    (("not", ("or", A, B)), "!(a | b)"),
    (("not", ("not", ("and", A, B))), "!!(a & b)"),
    (("and", ("not", A), ("not", B)), "!a & !b"),
    (("or", ("and", A, ("not", B)), C), "a & !b | c"),
    (("and", ("not", ("or", A, B)), ("not", ("and", C, ("or", A, D)))), "!(a | b) & !(c & (a | d))"),
    (("and", ("and", A, ("or", B, C)), D), "a & (b | c) & d"),
    (("or", ("or", A, ("and", B, C)), D), "a | b & c | d"),
    (("or", A, ("or", ("and", B, C), D)), "a | (b & c | d)"),
)


def from_python(node):
    """A body from Python's own tree, of ~ for not; None where it is something else."""
    if isinstance(node, ast.Name):
        return ("name", node.id)
    if isinstance(node, ast.UnaryOp) and isinstance(node.op, ast.Invert):
        inner = from_python(node.operand)
        return inner and ("not", inner)
    if isinstance(node, ast.BinOp) and isinstance(node.op, (ast.BitAnd, ast.BitOr)):
        sides = from_python(node.left), from_python(node.right)
        return ("and" if isinstance(node.op, ast.BitAnd) else "or", *sides) if all(sides) else None
    return None


def by_python(text):
    """The body of a text as Python reads it: its ~, & and | bind as ours do."""
    try:
        return from_python(ast.parse(text.strip().replace("!", "~"), mode="eval").body)
    except SyntaxError:
        return None


def parts(body):
    return 1 if body[0] == "name" else 1 + sum(map(parts, body[1:]))


def deep(body):
    return 1 if body[0] == "name" else 1 + max(map(deep, body[1:]))


def leaves(body):
    return [body[1]] if body[0] == "name" else [name for inner in body[1:] for name in leaves(inner)]


def is_small(body):
    found = leaves(body)
    return parts(body) <= 24 and deep(body) <= 6 and all(found.count(name) <= 4 for name in found)


def bodies_to(depth, names):
    """All bodies of no more than this depth."""
    if depth == 1:
        return [("name", name) for name in names]
    inner = bodies_to(depth - 1, names)
    pairs = list(itertools.product(inner, repeat=2))
    return (
        [("name", name) for name in names] + [("not", body) for body in inner]
        + [("and", *pair) for pair in pairs] + [("or", *pair) for pair in pairs]
    )


def some_body(chance, depth, names):
    """A body by a seeded chance."""
    kind = chance.choice(("name", "not", "and", "or", "and", "or")) if depth > 1 else "name"
    if kind == "name":
        return ("name", chance.choice(names))
    return (kind, *(some_body(chance, depth - 1, names) for side in range(1 if kind == "not" else 2)))


def some_sayings(many, seed):
    """Sayings of one to four names, by a seeded chance."""
    chance = random.Random(seed)
    found = []
    while len(found) < many:
        names = chance.sample(("a", "b", "xyz", "not", "or", "alls", "zzzzzz"), chance.randint(1, 4))
        body = some_body(chance, chance.randint(1, 6), names)
        if is_small(body):
            found.append((tuple((chance.choice(("all", "some")), name) for name in names), body))
    return found


def slow_holds(body, known):
    if body[0] == "name":
        return known[body[1]]
    sides = [slow_holds(inner, known) for inner in body[1:]]
    return {"not": not sides[0], "and": all(sides), "or": any(sides)}[body[0]]


def slow_truth(front, body, known):
    if not front:
        return slow_holds(body, known)
    (word, name), *behind = front
    both = [slow_truth(behind, body, {**known, name: side}) for side in (False, True)]
    return all(both) if word == "all" else any(both)


def slow_body_worth(body, known):
    """The worth in whole numbers, no rests taken."""
    if body[0] == "name":
        return known[body[1]]
    sides = [slow_body_worth(inner, known) for inner in body[1:]]
    if body[0] == "not":
        return 1 - sides[0]
    return sides[0] * sides[1] if body[0] == "and" else sides[0] + sides[1] - sides[0] * sides[1]


# Twelve names and eleven pairs, five deep: each of the two more parts below makes it no deeper than six.
TWELVE = ("or", *(
    ("or", ("and", ("and", A, B), ("and", C, D)), side) for side in (("and", A, B), ("or", C, D))
))
TWENTY_FOUR = ("not", TWELVE)
TWENTY_FIVE = ("not", ("or", TWELVE[1], ("or", TWELVE[2][1], ("not", TWELVE[2][2]))))
SIX_DEEP = ("not", ("not", ("not", ("not", ("not", A)))))
FOUR_TIMES = ("and", ("and", A, A), ("and", A, A))
FIVE_TIMES = ("and", FOUR_TIMES, A)

WRONG_BODIES = (
    (), ("a",), ("name",), ("name", "a", "a"), ("name", "e"), ("name", "aa"), ("name", ""), ("name", "all"),
    ("name", "some"), ("name", ("name", "a")), ("name", ("a",)), ("name", ()), ("nome", "a"), ("", "a"), ("all", "a"),
    ("not",), ("not", A, A), ("not", "a"), ("not", ()), ("not", ("name", "e")), ("!", A), ("xor", A, B), ("&", A, B),
    ("and",), ("and", A), ("and", A, B, C), ("and", A, "b"), ("and", "a", B), ("and", A, ("name",)), ("And", A, B),
    ("or",), ("or", A), ("or", A, B, C), ("or", (), B), ("or", A, ("not", ("name", "x"))), ("|", A, B), (A,), (A, B),
    ("and", ("or", A, B), ("or", C, ("name", "e"))), (("not",), A), ((("not",),), A), (("name", "a"), "a"),
    TWENTY_FIVE, ("not", SIX_DEEP), FIVE_TIMES, ("or", A, ("or", B, SIX_DEEP)), "a", "name", "", "all a",
)

WRONG_FRONTS = (
    (), FRONT + (("all", "e"),), FRONT + (("some", "a"),), (("all", "a"), ("all", "a")),
    (("all", "a"), ("some", "b"), ("some", "a")), (("al", "a"),), (("any", "a"),), (("", "a"),), (("All", "a"),),
    (("all",),), (("all", "a", "a"),), ((),), (("all", "a"), ()), ("all", "a"), ("all a",), "a", "all", "",
    (("all", "a"), "all"), (("a", "all"),), (("all", "all"), ("all", "a")), (("some", "a"), ("all", "some")),
    (("all", "a"), ("all", "")), (("all", "a"), ("all", "abcdefg")), (("all", "a"), ("all", "b c")),
    (("all", "a"), ("all", "B")), (("all", "a"), ("all", "b1")), (("all", "a"), ("all", "b ")),
    (("all", "a"), ("all", "!")), (("all", "a"), ("all", ("b",))), ((("all",), "a"),), (("all", "a"), ("all", "b\n")),
    (("all", "a" * 7), ("all", "a")), (("all", ("all", "a")),),
)


def wrong_sayings():
    """Tuples of tuples and texts that are no sayings."""
    for body in WRONG_BODIES:
        yield (FRONT, body)
    for front in WRONG_FRONTS:
        yield (front, A)
    yield from ((), (FRONT,), (A,), (FRONT, A, A), (FRONT, A, ()), (A, FRONT), ("all a", "a"), ("", ""), ((), ()))
    yield ((("all", "a"),), B)
    yield ((("all", "a"),), ("and", A, ("name", "b")))
    body = A
    for turn in range(190):
        body = ("not", body)
    yield (FRONT, body)
    yield (FRONT, ("and",) * 200)
    yield (FRONT, ("or",) + (A,) * 199)
    yield (tuple(("all", "a" * many) for many in range(1, 200)), A)


class TextChecks(Checks):
    def bad_text(self, at, text):
        with self.assertRaises(BadText, msg=repr(text)) as caught:
            read_saying(text)
        self.assertIs(type(caught.exception), BadText)
        self.assertEqual(caught.exception.word, "BadText")
        self.assertIs(type(caught.exception.at), int)
        self.assertEqual(caught.exception.at, at, repr(text))


class Signatures(unittest.TestCase):
    def test_names_and_stars(self):
        self.assertEqual(signature(read_saying), [("text", "place", None)])
        for function in (saying_text, names_of, degrees, truth):
            self.assertEqual(signature(function), [("saying", "place", None)])
        self.assertEqual(signature(body_worth), places("saying", "place"))

    def test_by_name(self):
        saying = read_saying(text="all a : a")
        self.assertEqual(saying_text(saying=saying), "all a : a")
        self.assertEqual(names_of(saying=saying), ("a",))
        self.assertEqual(degrees(saying=saying), (1,))
        self.assertIs(truth(saying=saying), False)
        self.assertEqual(body_worth(place=[5], saying=saying, prime=7), 5)

    def test_the_prime_by_its_name_alone(self):
        with self.assertRaises(TypeError):
            body_worth(read_saying("all a : a"), [5], 7)


class Written(TextChecks, unittest.TestCase):
    def test_each_sign(self):
        for body, text in BODIES:
            self.tells(f"all a some b all c some d : {text}", saying_text, (FRONT, body))

    def test_fronts(self):
        self.tells("all a : a", saying_text, ((("all", "a"),), A))
        self.tells("some b all a : a", saying_text, ((("some", "b"), ("all", "a")), A))
        self.tells("some abcdef all x some not : x", saying_text,
                   ((("some", "abcdef"), ("all", "x"), ("some", "not")), ("name", "x")))

    def test_the_one_of_the_document(self):
        front = (("all", "x"), ("some", "y"), ("some", "z"))
        body = ("or", ("and", ("name", "x"), ("not", ("name", "y"))), ("name", "z"))
        self.tells("all x some y some z : x & !y | z", saying_text, (front, body))
        self.tells((front, body), read_saying, "all x some y some z : x & !y | z")

    def test_brackets_are_needed(self):
        """Without any pair of brackets the body would be another one."""
        for body in bodies_to(3, "ab"):
            text = saying_text(((("all", "a"), ("all", "b")), body)).partition(" : ")[2]
            self.assertEqual(by_python(text), body, text)
            opened = []
            for at, sign in enumerate(text):
                if sign == "(":
                    opened.append(at)
                elif sign == ")":
                    begin = opened.pop()
                    without = text[:begin] + text[begin + 1:at] + text[at + 1:]
                    self.assertNotEqual(by_python(without), body, text)

    def test_greatest(self):
        for body in (TWENTY_FOUR, SIX_DEEP, FOUR_TIMES):
            self.assertTrue(is_small(body))
            text = saying_text((FRONT, body))
            self.tells((FRONT, body), read_saying, text)
        self.assertEqual((parts(TWENTY_FOUR), deep(TWENTY_FOUR), parts(TWENTY_FIVE), deep(TWENTY_FIVE)), (24, 6, 25, 6))


class Read(TextChecks, unittest.TestCase):
    def test_the_same_texts(self):
        for body, text in BODIES:
            self.tells((FRONT, body), read_saying, f"all a some b all c some d : {text}")

    def test_blanks_left_out(self):
        for body, text in BODIES:
            self.tells((FRONT, body), read_saying, "all a some b all c some d:" + text.replace(" ", ""))
        self.tells(((("all", "asome"),), ("name", "asome")), read_saying, "all asome:asome")

    def test_blanks_put_in(self):
        for body, text in BODIES:
            wide = "".join(f"  {sign} " for sign in text)
            self.tells((FRONT, body), read_saying, f"all   a  some b all    c some d   :{wide}")

    def test_blanks_at_both_ends(self):
        self.tells(((("all", "a"),), A), read_saying, "  all a : a   ")

    def test_needless_brackets(self):
        for text in ("(a)", "((a))", "( ( a ) )", "(" * 12 + "a" + ")" * 12):
            self.tells((FRONT, A), read_saying, f"all a some b all c some d : {text}")
        self.tells((FRONT, ("and", ("and", A, B), C)), read_saying, "all a some b all c some d : ((a) & (b)) & (c)")
        self.tells((FRONT, ("or", ("not", A), B)), read_saying, "all a some b all c some d : ((!(a)) | b)")
        self.tells((FRONT, ("not", ("not", A))), read_saying, "all a some b all c some d : !(!(a))")
        # Twelve within one another, and then again: brackets side by side don't add up.
        twelve = "(" * 12 + "a" + ")" * 12
        self.tells((FRONT, ("and", A, A)), read_saying, f"all a some b all c some d : {twelve}&{twelve}")
        self.tells((FRONT, ("not", ("and", A, ("or", B, A)))), read_saying,
                   "all a some b all c some d : " + "(" * 10 + "!(a & (b | a" + ")" * 12)

    def test_there_and_back(self):
        fronts = [tuple(zip(words, "ab")) for words in itertools.product(("all", "some"), repeat=2)]
        for at, body in enumerate(bodies_to(3, "ab")):
            saying = (fronts[at % 4], body)
            self.tells(saying, read_saying, saying_text(saying))
        for saying in some_sayings(400, 5):
            text = saying_text(saying)
            self.tells(saying, read_saying, text)
            self.assertNotIn("  ", text)
            self.tells(text, lambda: saying_text(read_saying(text.replace(" ", "  "))))

    def test_names(self):
        for name in ("a", "z", "abcdef", "zzzzzz", "alls", "al", "somes", "not", "and", "or", "name", "if"):
            saying = ((("some", name),), ("not", ("name", name)))
            self.tells(f"some {name} : !{name}", saying_text, saying)
            self.tells(saying, read_saying, f"some {name} : !{name}")


class TextsThatAreNone(TextChecks, unittest.TestCase):
    def test_empty(self):
        self.bad_text(0, "")
        self.bad_text(1, " ")
        self.bad_text(5, "     ")

    def test_strange_signs(self):
        strange = [chr(code) for code in range(32, 127) if chr(code) not in SIGNS] + ["\n"]
        self.assertEqual(len(strange), 95 - 33 + 1)
        for sign in strange:
            text = "all a some b : a & b"
            for at in range(len(text) + 1):
                self.bad_text(at, text[:at] + sign + text[at:])
            self.bad_text(0, sign)
            self.bad_text(3, ")))" + sign)

    def test_strange_signs_go_ahead_of_all_else(self):
        for wrong in ("", ":", "all all : a", "all a all a : a", "all abcdefg : a", "all a : b", "all a : ", "all a",
                      "all a : a a", "all a : !!!!!!a", "all a : a&a&a&a&a", "all a : " + "(" * 13):
            for sign in ("\n", "A", "1", "-", "\t"):
                self.bad_text(len(wrong), wrong + sign)
                self.bad_text(len(wrong), wrong + sign + " a & \n")

    def test_the_first_of_several_strange_signs(self):
        self.bad_text(2, "al1 A\n")
        self.bad_text(4, "all A : 1")

    def test_fronts(self):
        self.bad_text(0, ": a")
        self.bad_text(0, "a")
        self.bad_text(0, "a : a")
        self.bad_text(2, "  a : a")
        self.bad_text(0, "alla : a")
        self.bad_text(0, "any a : a")
        self.bad_text(0, "!a")
        self.bad_text(0, "(all a : a)")
        self.bad_text(4, "all : a")
        self.bad_text(4, "all all : a")
        self.bad_text(5, "some all a : a")
        self.bad_text(4, "all some a : a")
        self.bad_text(4, "all (a) : a")
        self.bad_text(4, "all !a : a")
        self.bad_text(6, "all a a : a")
        self.bad_text(6, "all a b : a")
        self.bad_text(6, "all a & b")
        self.bad_text(6, "all a somb : a")
        self.bad_text(5, "all a(a)")
        self.bad_text(13, "all a some b a : a")

    def test_a_name_of_the_front_twice(self):
        self.bad_text(10, "all a all a : a")
        self.bad_text(11, "all a some a : a")
        self.bad_text(18, "all a some b all  a : a")
        self.bad_text(24, "all a some b all c some c : a")

    def test_a_name_that_is_not_in_the_front(self):
        self.bad_text(8, "all a : b")
        self.bad_text(12, "all a : a & b")
        self.bad_text(13, "all a : a & !aa")
        self.bad_text(9, "all ab : a")
        self.bad_text(8, "all a : all")
        self.bad_text(12, "all a : a | some")

    def test_names_of_seven_letters(self):
        self.bad_text(4, "all abcdefg : a")
        self.bad_text(11, "all a some abcdefg : a")
        self.bad_text(4, "all abcdefg")
        self.bad_text(4, "all " + "a" * 300)
        self.bad_text(13, "all abcdef : abcdefg")
        self.bad_text(14, "all abcdef : !abcdefg")

    def test_a_fifth_name_of_the_front(self):
        four = "all a some b all c some d"
        self.bad_text(26, f"{four} all e : a")
        self.bad_text(26, f"{four} some e : e")
        self.bad_text(26, f"{four} all a : a")
        self.bad_text(26, f"{four} all")
        self.bad_text(26, f"{four} all : a")
        self.bad_text(26, f"{four} e : a")
        self.bad_text(28, f"{four}   some abcdefg : a")

    def test_too_short(self):
        text = "all a some b : !(a & b) | (b)"
        # Where a prefix is no whole saying but goes on, more is wanted at its end.
        for at in (3, 4, 5, 6, 10, 11, 12, 13, 14, 15, 16, 17, 18, 19, 20, 21, 22, 25, 26, 27, 28):
            self.bad_text(at, text[:at])
            self.bad_text(at + 3, text[:at] + "   ")
        for at in (23, 24, 29):
            read_saying(text[:at])

    def test_bodies(self):
        head = "all a some b : "
        for text, at in (
            ("a a", 2), ("a b", 2), ("a !b", 2), ("a (b)", 2), ("(a) b", 4), ("(a)(b)", 3), ("& a", 0), ("| a", 0),
            ("a & & b", 4), ("a | | b", 4), ("a & | b", 4), ("()", 1), (")", 0), ("a)", 1), ("(a))", 3), ("(a & )", 5),
            ("! & a", 2), ("!)", 1), ("a : b", 2), (":", 0), ("a!", 1), ("(a : b)", 3), ("a & all b", 4), ("aa", 0),
        ):
            self.bad_text(len(head) + at, head + text)
        for text in ("a &", "a |", "!", "(", "(a", "((a)", "a & (b", "!(", "(a |", ""):
            self.bad_text(len(head + text), head + text)

    def test_the_thirteenth_bracket(self):
        head = "all a : "
        self.bad_text(len(head) + 12, head + "(" * 13 + "a" + ")" * 13)
        self.bad_text(len(head) + 12, head + "(" * 13)
        self.bad_text(len(head) + 12, head + "(" * 200)
        self.bad_text(len(head) + 16, head + "a & " + "(" * 13 + "a" + ")" * 13)
        self.bad_text(len(head) + 24, head + "( " * 13 + "a" + ")" * 13)
        self.bad_text(len(head) + 12, head + "(" * 12)

    def test_too_great(self):
        head = "all a some b all c some d : "
        four = "((a & b) & (c & d))"
        self.bad_text(0, "all a : !!!!!!a")
        self.bad_text(0, "all a : (!(!!!(!!a)))")
        self.bad_text(0, head + "a & b & c & d & a & b & c")
        self.bad_text(0, "all a : a & a & a & a & a")
        self.bad_text(0, "all a : a|a&(a|a)|a")
        self.bad_text(0, head + f"!(({four} | (a & b)) | ({four} | !(c & d)))")
        self.bad_text(0, "all a : " + "!" * 380 + "a")
        self.bad_text(0, "all a : " + "&".join("a" * 190))
        self.bad_text(0, "all a : " + "|".join(["!!!a"] * 70))
        self.bad_text(0, "  all a : a & a & a & a & a")

    def test_as_great_as_may_be(self):
        head = "all a some b all c some d : "
        four = "((a & b) & (c & d))"
        self.tells((FRONT, TWENTY_FOUR), read_saying, head + f"!(({four} | (a & b)) | ({four} | (c | d)))")
        self.tells((FRONT, SIX_DEEP), read_saying, head + "!!!!!a")
        self.tells(6, lambda: deep(read_saying(head + "a & b & c & d & a & b")[1]))
        self.tells(4, lambda: leaves(read_saying("all a : a & a | a & a")[1]).count("a"))

    def test_another_wrong_sign_goes_ahead_of_too_great(self):
        great = "all a : !!!!!!a"
        self.bad_text(len(great) + 1, great + " a")
        self.bad_text(len(great) + 2, great + " &")
        self.bad_text(len(great), great + ")")
        great = "all a : a & a & a & a & a"
        self.bad_text(len(great) + 3, great + " & b")
        self.bad_text(len(great) + 4, great + " & (")

    def test_by_chance(self):
        chance = random.Random(11)
        kinds = {"read": 0, "great": 0, "short": 0, "wrong": 0}
        for saying in some_sayings(1500, 3):
            words = saying_text(saying).replace("!", "! ").replace("(", "( ").replace(")", " )").split()
            changed_words(chance, words)
            self.checked(chance, words, kinds)
        self.assertGreater(min(kinds["read"], kinds["short"], kinds["wrong"]), 50, kinds)

    def checked(self, chance, words, kinds):
        text, starts = "", []
        for before, word in zip([":"] + words, words):
            both_words = before.isalpha() and word.isalpha()
            text += " " * chance.randint(int(both_words), 2)
            starts.append(len(text))
            text += word
        wrong = [at for at in range(len(words)) if not goes_on(words[:at + 1])]
        if wrong:
            kinds["wrong"] += 1
            self.bad_text(starts[wrong[0]], text)
        elif whole(words) is None:
            kinds["short"] += 1
            self.bad_text(len(text), text)
        elif not is_small(whole(words)[1]):
            kinds["great"] += 1
            self.bad_text(0, text)
        else:
            kinds["read"] += 1
            self.tells(whole(words), read_saying, text)


def changed_words(chance, words):
    """Change a word or two of a saying's words."""
    others = ["all", "some", "a", "b", "q", ":", "&", "|", "!", "(", ")", "abcdefg"] + words
    for turn in range(chance.randint(1, 2)):
        at = chance.randrange(len(words))
        kind = chance.choice(("put", "put in", "leave out", "cut"))
        words[at:at + (kind in ("put", "leave out"))] = [chance.choice(others)] if kind.startswith("put") else []
        if kind == "cut":
            del words[at + 1:]
        if not words:
            words.append("a")


def whole(words):
    """The saying of these words, however great, by Python's own reading; None where it is none."""
    if ":" not in words:
        return None
    front, body = words[:words.index(":")], words[words.index(":") + 1:]
    names = front[1::2]
    if not 2 <= len(front) <= 8 or len(front) % 2 or any(word not in ("all", "some") for word in front[::2]):
        return None
    if len(set(names)) != len(names) or not all(is_plain(name) for name in names):
        return None
    # Other names than the saying's own, for not and or are words of Python.
    coded = " ".join(f"n{names.index(word)}" if word in names else word for word in body)
    read = by_python(coded)
    if any(word.isalpha() and word not in names for word in body) or read is None:
        return None
    return (tuple(zip(front[::2], names)), renamed(read, names))


def is_plain(name):
    return name.isalpha() and len(name) <= 6 and name not in ("all", "some")


def renamed(body, names):
    if body[0] == "name":
        return ("name", names[int(body[1][1:])])
    return (body[0], *(renamed(inner, names) for inner in body[1:]))


def goes_on(words):
    """Whether these words begin some saying: whether one of a few endings makes them a whole one."""
    if ":" in words:
        missing = [")"] * (words.count("(") - words.count(")"))
        return any(whole(words + end + missing) for end in ([], [words[1]])) if len(words) > 1 else False
    first = words[1] if len(words) > 1 else "qqq"
    return any(whole(words + end) for end in ([":", first], ["zzz", ":", "zzz"]))


class Meanings(Checks, unittest.TestCase):
    def test_names_of(self):
        self.tells(("a",), names_of, ((("all", "a"),), A))
        self.tells(("a", "b", "c", "d"), names_of, (FRONT, C))
        self.tells(("zz", "abcdef", "m"), names_of, read_saying("some zz all abcdef some m : m"))

    def test_degrees(self):
        self.tells((1,), degrees, ((("all", "a"),), A))
        self.tells((0, 0, 1, 0), degrees, (FRONT, C))
        self.tells((4, 0, 0, 0), degrees, (FRONT, FOUR_TIMES))
        self.tells((3, 3, 3, 3), degrees, (FRONT, TWENTY_FOUR))
        self.tells((1, 0, 2), degrees, read_saying("some zz all abcdef some m : m & !(zz | m)"))
        for front, body in some_sayings(200, 9):
            self.tells(tuple(leaves(body).count(name) for word, name in front), degrees, (front, body))

    def test_truth_of_one_name(self):
        for text, wanted in (
            ("all a : a", False), ("some a : a", True), ("all a : !a", False), ("some a : !a", True),
            ("all a : a | !a", True), ("some a : a & !a", False), ("all a : a & a", False), ("some a : a | a", True),
        ):
            self.tells(wanted, truth, read_saying(text))

    def test_truth_goes_by_the_order_of_the_front(self):
        same = "(a & b | !a & !b)"
        self.tells(True, truth, read_saying(f"all a some b : {same}"))
        self.tells(False, truth, read_saying(f"some a all b : {same}"))
        self.tells(True, truth, read_saying(f"some a some b : {same}"))
        self.tells(False, truth, read_saying(f"all a all b : {same}"))
        self.tells(False, truth, read_saying("all a some b : a & b"))
        self.tells(True, truth, read_saying("some a all b : a | b"))
        self.tells(True, truth, read_saying("all b some a : a | b"))

    def test_truth_of_two_names(self):
        for words in itertools.product(("all", "some"), repeat=2):
            front = tuple(zip(words, "ab"))
            for body in bodies_to(3, "ab"):
                self.tells(slow_truth(front, body, {}), truth, (front, body))

    def test_truth_of_one_to_four(self):
        counts = {}
        for saying in some_sayings(600, 21):
            wanted = slow_truth(*saying, {})
            self.tells(wanted, truth, saying)
            counts[len(saying[0]), wanted] = counts.get((len(saying[0]), wanted), 0) + 1
        self.assertEqual(len(counts), 8)
        self.assertGreater(min(counts.values()), 10)

    def test_truth_of_all_words_of_four_names(self):
        for words in itertools.product(("all", "some"), repeat=4):
            front = tuple(zip(words, "abcd"))
            for body in (TWENTY_FOUR, ("or", ("and", A, ("not", B)), ("or", ("and", ("not", A), B), ("and", C, D))), C):
                self.tells(slow_truth(front, body, {}), truth, (front, body))


class BodyWorths(Checks, unittest.TestCase):
    def test_each_sign(self):
        front = (("all", "a"), ("some", "b"))
        self.tells(3, body_worth, (front, A), [3, 5], prime=7)
        self.tells(5, body_worth, (front, B), [3, 5], prime=7)
        self.tells(5, body_worth, (front, ("not", A)), [3, 5], prime=7)
        self.tells(1, body_worth, (front, ("and", A, B)), [3, 5], prime=7)
        self.tells(0, body_worth, (front, ("or", A, B)), [3, 5], prime=7)
        self.tells(2, body_worth, (front, ("and", A, A)), (3, 5), prime=7)

    def test_places_go_by_the_front(self):
        self.tells(5, body_worth, ((("all", "b"), ("all", "a")), A), [3, 5], prime=7)

    def test_the_prime_left_out(self):
        self.tells(29, body_worth, ((("all", "a"),), ("not", A)), [3])
        self.tells(1, body_worth, ((("all", "a"),), ("and", A, A)), [30])

    def test_at_the_corners(self):
        for saying in some_sayings(150, 31):
            names = [name for word, name in saying[0]]
            for figures in itertools.product((0, 1), repeat=len(names)):
                wanted = int(slow_holds(saying[1], dict(zip(names, map(bool, figures)))))
                self.tells(wanted, body_worth, saying, figures, prime=3)
                self.tells(wanted, body_worth, saying, list(figures))

    def test_elsewhere(self):
        chance = random.Random(41)
        for saying in some_sayings(150, 32):
            names = [name for word, name in saying[0]]
            for prime in PRIMES:
                place = [chance.randrange(prime) for name in names]
                wanted = slow_body_worth(saying[1], dict(zip(names, place))) % prime
                self.tells(wanted, body_worth, saying, place, prime=prime)
                self.tells(wanted, body_worth, saying, tuple(place), prime=prime)

    def test_places_that_are_none(self):
        for many in (1, 2, 3, 4):
            saying = (FRONT[:many], A)
            for prime in (3, 31, 61):
                for count in (0, 1, 2, 3, 4, 5, 6, 7, 200):
                    if count != many:
                        self.refuses(BadPlace, body_worth, saying, [0] * count, prime=prime)
                for thing in (prime, -1, GREAT, -GREAT, True):
                    self.refuses(BadPlace, body_worth, saying, [0] * (many - 1) + [thing], prime=prime)
                    self.refuses(BadPlace, body_worth, saying, (thing,) + (0,) * (many - 1), prime=prime)

    def test_the_order_of_the_refusals(self):
        for saying in wrong_sayings():
            self.refuses(BadSaying, body_worth, saying, [0, 0, 0, 0])
            self.refuses(BadSaying, body_worth, saying, [31])
            self.refuses(BadSaying, body_worth, saying, [])
            self.refuses(BadPrime, body_worth, saying, [31], prime=33)
        for prime in NO_PRIMES:
            self.refuses(BadPrime, body_worth, (FRONT, A), [0, 0, 0, 0], prime=prime)
            self.refuses(BadPrime, body_worth, (FRONT, A), [GREAT], prime=prime)
            self.refuses(BadPrime, body_worth, (FRONT, ()), [], prime=prime)

    def test_asking_changes_nothing(self):
        place = [1, 2, 3, 4]
        body_worth((FRONT, TWENTY_FOUR), place, prime=7)
        self.assertEqual(place, [1, 2, 3, 4])


class TuplesThatAreNoSayings(Checks, unittest.TestCase):
    def test_refused(self):
        for saying in wrong_sayings():
            for function in (saying_text, names_of, degrees, truth):
                self.refuses(BadSaying, function, saying)

    def test_just_within(self):
        for body in (TWENTY_FOUR, SIX_DEEP, FOUR_TIMES, ("and", SIX_DEEP[1], SIX_DEEP[1])):
            for function in (saying_text, names_of, degrees, truth):
                function((FRONT, body))


if __name__ == "__main__":
    unittest.main()
