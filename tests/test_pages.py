import itertools
import random
import unittest

from weaklook.errors import BadPage
from weaklook.hall import Hall
from weaklook.pages import page, question_text, read_page
from weaklook.questions import coins_of, product_question, roads_question, saying_question
from weaklook.rests import PRIMES
from weaklook.tongue import read_saying, saying_text
from tests.helping import Checks, same_kinds, signature
from tests.slow_talk import some_coins, some_product, some_questions, some_roads
from tests.test_hall import ASKING, full_hall, seen, small_hall

PRODUCT = product_question([[1, 2], [3, 4]], [[5, 6], [0, 1]], [[2, 3], [4, 10]], prime=11)
ROADS = roads_question([[1, 1], [1, 0]], 3, 0, 1, 2, prime=7)
STEP = roads_question([[0, 1, 2, 3], [4, 5, 6, 7], [8, 9, 10, 11], [12, 13, 14, 15]], 1, 3, 2, 14, prime=31)
SAYING = saying_question(read_saying("all x some y : x & y | !x & !y"), 1, prime=5)

# Seven rows of two talks and one more that is cut in many ways below.
TALKS = (
    "talk a roads 7 3 0 1 2 1 1 1 0\n"
    "coins 3 5\n"
    "letters 1 0 0 / 1 1 / 1 3 3\n"
    "talk ab saying 5 1 all x some y : x & y | !x & !y\n"
    "coins 0 1 2 3 4\n"
    "letters 1 0\n"
    "talk b product 11 1 2 3 4 5 6 0 1 2 3 4 10\n"
    "coins 10 0 1\n"
    "letters\n"
)
ROWS = TALKS.split("\n")[:-1]


def joined(rows):
    return "".join(f"{row}\n" for row in rows)


def with_row(at, row):
    return joined(ROWS[:at] + [row] + ROWS[at + 1:])


def three():
    hall = Hall()
    hall.ask("b", PRODUCT, [10, 0, 1])
    hall.ask("a", ROADS, [3, 5])
    hall.ask("ab", SAYING, [0, 1, 2, 3, 4])
    for turn in range(3):
        hall.speak("a")
    hall.speak("ab")
    return hall


class PageChecks(Checks):
    def no_page(self, row, text):
        with self.assertRaises(BadPage) as caught:
            read_page(text)
        self.assertIs(type(caught.exception), BadPage)
        self.assertEqual((caught.exception.word, caught.exception.row), ("BadPage", row), text)
        self.assertIs(type(caught.exception.row), int)


class Interface(unittest.TestCase):
    def test_names(self):
        self.assertEqual(signature(question_text), [("question", "place", None)])
        self.assertEqual(signature(page), [("hall", "place", None)])
        self.assertEqual(signature(read_page), [("text", "place", None)])

    def test_by_name(self):
        self.assertEqual(question_text(question=ROADS), question_text(ROADS))
        self.assertEqual(page(hall=three()), TALKS)
        self.assertEqual(read_page(text=TALKS), three())


class Written(PageChecks, unittest.TestCase):
    def test_questions(self):
        self.tells("product 11 1 2 3 4 5 6 0 1 2 3 4 10", question_text, PRODUCT)
        self.tells("roads 7 3 0 1 2 1 1 1 0", question_text, ROADS)
        self.tells("roads 31 1 3 2 14 0 1 2 3 4 5 6 7 8 9 10 11 12 13 14 15", question_text, STEP)
        self.tells("saying 5 1 all x some y : x & y | !x & !y", question_text, SAYING)

    def test_questions_of_each_kind(self):
        for question in some_questions():
            text = question_text(question)
            words = text.split(" ")
            self.assertEqual(words[:2], [question[0], str(question[1])])
            if question[0] == "saying":
                self.assertEqual(text, f"saying {question[1]} {question[3]} {saying_text(question[2])}")
            else:
                squares = question[2:] if question[0] == "product" else (question[2],)
                numbers = () if question[0] == "product" else question[3:]
                things = [thing for square in squares for row in square for thing in row]
                self.assertEqual(words[2:], [str(number) for number in (*numbers, *things)])

    def test_pages(self):
        self.tells(TALKS, page, three())
        self.tells("", page, Hall())
        hall = Hall()
        hall.ask("some", STEP, [])
        self.tells("talk some roads 31 1 3 2 14 0 1 2 3 4 5 6 7 8 9 10 11 12 13 14 15\ncoins\nletters\n", page, hall)

    def test_a_letter_that_was_not_right_is_written_too(self):
        hall = Hall()
        hall.ask("a", ROADS, [3, 5])
        hall.say("a", [6, 6, 6])
        self.tells("talk a roads 7 3 0 1 2 1 1 1 0\ncoins 3 5\nletters 6 6 6\n", page, hall)

    def test_asking_changes_nothing(self):
        hall = small_hall()
        before = seen(hall)
        page(hall)
        self.tells(before, seen, hall)


class Read(PageChecks, unittest.TestCase):
    def there_and_back(self, hall):
        text = page(hall)
        found = read_page(text)
        self.assertIs(type(found), Hall)
        self.assertEqual(found, hall)
        self.assertTrue(same_kinds(seen(found)[0], seen(hall)[0]))
        self.tells((0, 0), found.past)
        self.tells(text, page, found)
        return found

    def test_none_to_eight_talks(self):
        hall = Hall()
        self.there_and_back(hall)
        for many, name in enumerate(("all", "some", "talk", "coins", "a", "z", "zzzzzz", "lettrs")):
            question = (PRODUCT, ROADS, SAYING, STEP)[many % 4]
            hall.ask(name, question, some_coins(question, coins_of(question), many))
            if hall.stand(name) == "on":
                hall.speak(name)
            self.there_and_back(hall)
        self.assertEqual(len(hall), 8)
        self.there_and_back(full_hall())

    def test_the_empty_text_is_the_page_of_the_empty_hall(self):
        found = read_page("")
        self.assertEqual((found, found.past(), found.names()), (Hall(), (0, 0), []))

    def test_talks_go_on_alike(self):
        for question, lies in itertools.product(some_questions(primes=(3, 7, 61), sayings=10), (False, True)):
            hall = Hall()
            hall.ask("a", question, some_coins(question, coins_of(question), 5))
            while hall.stand("a") == "on":
                found = self.there_and_back(hall)
                told = hall.lie("a") if lies else hall.speak("a")
                self.tells(told, found.lie if lies else found.speak, "a")
                self.assertEqual(found, hall)
                for asking in ASKING:
                    self.tells(getattr(hall, asking)("a"), getattr(found, asking), "a")
            self.there_and_back(hall)

    def test_a_past_is_not_read(self):
        hall = small_hall()
        self.assertNotEqual(hall.past(), (0, 0))
        found = self.there_and_back(hall)
        found.leave("road")
        found.undo()
        self.assertEqual(found, hall)
        self.tells((0, 1), found.past)


class TextsThatAreNoPages(PageChecks, unittest.TestCase):
    def test_the_page_itself_is_one(self):
        self.assertEqual(read_page(TALKS), three())

    def test_the_word_of_each_row(self):
        for at, row in enumerate(ROWS):
            word = row.split(" ")[0]
            for other in ("", "talk", "coins", "letters", "letter", "coin", "Talk", word + "s", word[:-1], "/"):
                if other != word:
                    self.no_page(at, with_row(at, other + row[len(word):]))
            self.no_page(at, with_row(at, ""))
            self.no_page(at, with_row(at, " " + row))
            self.no_page(at, with_row(at, row.replace(word, word + ":", 1)))

    def test_blanks(self):
        for at, row in enumerate(ROWS):
            self.no_page(at, with_row(at, row + " "))
            for place in [place for place, sign in enumerate(row) if sign == " "]:
                self.no_page(at, with_row(at, row[:place] + " " + row[place:]))
                if row[place - 1] in "!:&|/" or row[place + 1] in ":&|/!":
                    self.no_page(at, with_row(at, row[:place] + row[place + 1:]))

    def test_line_feeds(self):
        for at, row in enumerate(ROWS):
            # Without its line feed it is no row, whatever it says.
            self.no_page(at, joined(ROWS[:at]) + row)
            if at % 3:
                self.no_page(at, joined(ROWS[:at]))
                self.no_page(at, joined(ROWS[:at]) + row[:1])
                self.no_page(at, joined(ROWS[:at]) + " ")
            else:
                self.assertEqual(read_page(joined(ROWS[:at])).names(), ["a", "ab", "b"][:at // 3])
            self.no_page(at, joined(ROWS[:at]) + "\n" + joined(ROWS[at:]))
        self.no_page(len(ROWS), TALKS + "\n")
        self.no_page(len(ROWS), TALKS + " ")
        self.no_page(len(ROWS), TALKS + "talk")
        self.no_page(len(ROWS), TALKS + "talk c")
        self.no_page(0, "\n")
        self.no_page(0, " ")
        self.no_page(0, "\n" + TALKS)
        # Two rows in one: the line feed between them lacks.
        self.no_page(0, TALKS.replace("\n", "", 1))
        self.no_page(0, TALKS.replace("\n", " ", 1))

    def test_rows_that_lack_or_are_too_many(self):
        for at, row in enumerate(ROWS):
            # Where a row lacks, the next one stands in its place, or none.
            self.no_page(at, joined(ROWS[:at] + ROWS[at + 1:]))
            self.no_page(at + 1, joined(ROWS[:at + 1] + [row] + ROWS[at + 1:]))
        for extra in ("coins", "letters", "coins 1", "letters 1 1", "talk", "x"):
            self.no_page(9, joined(ROWS + [extra]))
        self.no_page(10, joined(ROWS + ["talk c " + question_text(ROADS)]))
        self.no_page(11, joined(ROWS + ["talk c " + question_text(ROADS), "coins 1 2"]))

    def test_names(self):
        for name in ("A", "a1", "abcdefg", "", "a_", "a-b", "!", "talk:", "ABC", "1"):
            self.no_page(0, with_row(0, f"talk {name} " + question_text(ROADS)))
        self.no_page(0, with_row(0, "talk " + question_text(ROADS)))
        self.no_page(0, with_row(0, "talk"))
        self.no_page(0, with_row(0, "talk a"))

    def test_order(self):
        for at, name in ((3, "a"), (6, "a"), (6, "ab"), (6, "aa"), (6, "aaz"), (3, "b"), (3, "c")):
            words = ROWS[at].split(" ")
            wanted = at if name != "b" and name != "c" else 6
            self.no_page(wanted, with_row(at, " ".join([words[0], name, *words[2:]])))
        talks = [ROWS[:3], ROWS[3:6], ROWS[6:]]
        for order in itertools.permutations(range(3)):
            wrong = [at for at in (1, 2) if order[at] < order[at - 1]]
            if wrong:
                self.no_page(3 * wrong[0], joined(sum([talks[at] for at in order], [])))

    def test_a_ninth_talk(self):
        talk = [question_text(ROADS), "coins 1 2", "letters"]
        rows = sum([[f"talk {name} {talk[0]}", *talk[1:]] for name in "abcdefghi"], [])
        self.assertEqual(len(read_page(joined(rows[:24]))), 8)
        self.no_page(24, joined(rows))
        self.no_page(24, joined(rows[:25]))
        self.no_page(24, joined(rows[:24] + ["talk i"]))

    def test_kinds_and_primes(self):
        for text in ("product", "roads", "saying", "Roads 7 3 0 1 2 1 1 1 0", "road 7 3 0 1 2 1 1 1 0",
                     "7 3 0 1 2 1 1 1 0", "talk 7 3 0 1 2 1 1 1 0", " roads 7 3 0 1 2 1 1 1 0",
                     "roads7 3 0 1 2 1 1 1 0", "saying 5 1 roads 7 3 0 1 2 1 1 1 0"):
            self.no_page(0, with_row(0, f"talk a {text}"))
        numbers = [number for number in range(64) if number not in PRIMES] + [67, 7 ** 30, "x", "-7", "+7", "07", "7.0"]
        for prime in numbers:
            self.no_page(0, with_row(0, f"talk a roads {prime} 3 0 1 2 1 1 1 0"))
            self.no_page(3, with_row(3, f"talk ab saying {prime} 1 all x some y : x & y | !x & !y"))
            self.no_page(6, with_row(6, f"talk b product {prime} 1 2 3 4 5 6 0 1 2 3 4 10"))

    def test_numbers_that_are_not_plain(self):
        for at in (0, 1, 2, 4, 5, 6, 7):
            words = ROWS[at].split(" ")
            for place in [place for place, word in enumerate(words) if word.isdigit()]:
                plain = words[place]
                for other in ("0" + plain, "00", "+" + plain, "-" + plain, "-0", plain + ".", plain + "_0", "x", "",
                              "0x1", "1e0", "9" * 40, "1" * 5000, "!", "/1", "1/"):
                    self.no_page(at, with_row(at, " ".join(words[:place] + [other] + words[place + 1:])))

    def test_numbers_of_a_question(self):
        for numbers in ("0 0 1 2", "9 0 1 2", "3 2 1 2", "3 0 2 2", "3 0 1 7", "3 0 1"):
            self.no_page(0, with_row(0, f"talk a roads 7 {numbers} 1 1 1 0"))
        for things in ("1 1 1", "1 1 1 0 0", "1 1 1 7", "7 1 1 0", "", "1", "1 1 1 0 " * 2 + "1"):
            self.no_page(0, with_row(0, f"talk a roads 7 3 0 1 2 {things}".rstrip()))
        for numbers in ("", "7", "7 3", "7 3 0", "7 3 0 1", "7 3 0 1 2"):
            self.no_page(0, with_row(0, f"talk a roads {numbers}".rstrip()))
        for things in ([1] * 11, [1] * 13, [1] * 15, [1] * 4, [1] * 47, [1] * 49, [1] * 24, [], [1] * 11 + [11],
                       [11] + [1] * 11):
            self.no_page(6, with_row(6, " ".join(["talk b product 11", *map(str, things)])))

    def test_sayings_of_a_question(self):
        texts = (
            "", "all x", "all x :", "all x : y", "all x : x &", "all x : x y", "x", "all x all x : x", "all x: x",
            "all x :x", "all x : (x)", "all x : x&x", "all x : ! x", "all x : (x & x) & x", "all x : !(x)",
            "all x : x & x & x & x & x", "all x : !!!!!!x", "all X : x", "all x : x | (x & x)",
            "all a all b all c all d all e : a", "all abcdefg : abcdefg", "all x : ((x | x) & x)",
        )
        for text in texts:
            self.no_page(3, with_row(3, f"talk ab saying 5 1 {text}"))
            self.no_page(3, with_row(3, f"talk ab saying 5 1 {text}".rstrip()))
        for claim in ("2", "00", "01", "-1", "x", "5", "all"):
            self.no_page(3, with_row(3, f"talk ab saying 5 {claim} all x some y : x & y | !x & !y"))
        self.no_page(3, with_row(3, "talk ab saying 5 all x some y : x & y | !x & !y"))
        self.no_page(3, with_row(3, "talk ab saying 5 1"))
        self.no_page(3, with_row(3, "talk ab saying 5"))
        self.no_page(3, with_row(3, "talk ab saying"))
        # A name that stands as often as the prime says or more.
        self.no_page(3, with_row(3, "talk ab saying 3 1 all x some y : x & x & x | y"))

    def test_coins(self):
        for row in ("coins", "coins 3", "coins 3 5 1", "coins 3 7", "coins 7 3", "coins 3 5 /", "coins 3 / 5",
                    "coins 3 99999999999999999999999999999"):
            self.no_page(1, with_row(1, row))
        for row in ("coins", "coins 10 0", "coins 10 0 1 1", "coins 11 0 1", "coins 10 0 11"):
            self.no_page(7, with_row(7, row))
        self.no_page(4, with_row(4, "coins 0 1 2 3 5"))
        # Of roads of one step none is wanted.
        rows = ["talk a " + question_text(STEP), "coins", "letters"]
        self.assertEqual(read_page(joined(rows)).stand("a"), "yes")
        self.no_page(1, joined([rows[0], "coins 1", rows[2]]))
        self.no_page(2, joined([rows[0], rows[1], "letters 1 1"]))
        self.no_page(2, joined([rows[0], rows[1], "letters /"]))

    def test_letters(self):
        for row in ("letters 1 0", "letters 1", "letters 1 0 0 0", "letters 1 0 7", "letters 7 0 0", "letters /",
                    "letters 1 0 0 /", "letters / 1 0 0", "letters 1 0 0 / / 1 1", "letters 1 0 0 1 1",
                    "letters 1 0 0 / 1", "letters 1 0 0 / 1 1 1", "letters 1 0 0 / 1 1 / 1 3 3 / 0 3 / 1 1",
                    "letters 1 0 0 / 1 1 / 1 3 3 / 0 3 / 1 1 1", "letters 1 0 0 / 1 1 / 1 3 3 / 3 0 / 1 1",
                    "letters 2 0 0 / 1 1", "letters 1 0 0 // 1 1", "letters 1 0 0 /1 1", "letters 1 0 0/ 1 1",
                    "letters 1 0 0, 1 1", "letters 1 0 0 | 1 1"):
            self.no_page(2, with_row(2, row))
        for row, stand in (("letters", "on"), ("letters 2 0 0", "no"), ("letters 1 0 0", "on"),
                           ("letters 1 0 0 / 1 1 / 1 3 3 / 0 3", "yes"), ("letters 1 0 0 / 1 1 / 1 3 3 / 3 0", "no")):
            self.assertEqual(read_page(with_row(2, row)).stand("a"), stand)

    def test_the_first_wrong_row_goes(self):
        for one, other in itertools.combinations(range(len(ROWS)), 2):
            rows = list(ROWS)
            rows[one] += " x"
            rows[other] += " x"
            self.no_page(one, joined(rows))
            self.no_page(one, joined(rows)[:-1])
        # A talk out of order and one too many is told at its first row, whatever its coins are.
        rows = list(ROWS)
        rows[3] = rows[3].replace("talk ab", "talk a")
        rows[4] = "coins"
        self.no_page(3, joined(rows))

    def test_by_chance_what_is_read_is_written_so(self):
        chance = random.Random(51)
        signs = "abtlcx 0123456789/:&|!()\n"
        for turn in range(4000):
            text, many = TALKS, chance.randint(1, 2)
            for change in range(many):
                at = chance.randrange(len(text) + 1)
                text = text[:at] + chance.choice(("", chance.choice(signs))) + text[at + chance.randint(0, 1):]
            try:
                found = read_page(text)
            except BadPage as refusal:
                self.assertLessEqual(0, refusal.row)
                self.assertLessEqual(refusal.row, text.count("\n"))
            else:
                self.assertEqual(page(found), text)


class GreatPages(PageChecks, unittest.TestCase):
    def test_eight_great_talks(self):
        hall = Hall()
        for at, name in enumerate("abcdefgh"):
            question = some_product(8, 61, at) if at % 2 else some_roads(8, 61, 8, at % 3)
            hall.ask(name, question, some_coins(question, coins_of(question), at))
            while hall.stand(name) == "on":
                hall.lie(name)
        found = read_page(page(hall))
        self.assertEqual(found, hall)
        self.assertTrue(same_kinds(seen(found)[0], seen(hall)[0]))

    def test_texts_of_twenty_thousand_signs(self):
        for body in ("!" * 19900 + "x", "x & " * 4970 + "x", "(" * 12 + "!" * 19900, "x" * 19900):
            self.no_page(0, f"talk a saying 7 1 all x : {body}\ncoins\nletters\n")
        self.no_page(1, with_row(1, "coins" + " 1" * 9900))
        self.no_page(2, with_row(2, "letters 1 0 0" + " / 1 1" * 3300))


if __name__ == "__main__":
    unittest.main()
