import unittest

from mendworth.books import Book
from mendworth.errors import InvalidText
from tests.helper import full_keepers, kinds, luck, lucky_keepers, raised

TEXT = "keeper b 2\ncall a=1 longname=3\ncall longname=6\nkeeper a 1\nkeeper longname 6\ncall b=5\n"
KEEPERS = [("b", 2, [{"a": 1, "longname": 3}, {"longname": 6}]), ("a", 1, []), ("longname", 6, [{"b": 5}])]

NO_NAMES = ("A", "aB", "a1", "1", "abcdefghi", "-", "a-b", "a.b", "`", "{")
NO_NUMERALS = ("0", "7", "8", "9", "10", "01", "00", "06", "-1", "+1", "1.0", "1,", "a", "one", "11", "66", "123456",
               "12", "1=", "1=1", "=1")

# Each is no line of a text, wherever it stands.
NO_LINES = ("", " ", "  ", "a", "keeper", "call", "keepers a 1", "keepe a 1", "Keeper e 1", "KEEPER e 1", "calls a=1",
            "Call a=1", "keeper ", "call ", "keeper e", "keeper e ", "keeper  e 1", " keeper e 1", "keeper e 1 ",
            "keeper e  1", "keeper e 1 1", "keeper e 1 a=1", "keeper e=1", "keeper 1 e", "keeper 1", "e 1",
            "keeper e 1\t", "keeper\te\t1", "keeper e 1\r", "call a", "call a=", "call =1", "call =", "call a 1",
            "call  a=1", " call a=1", "call a=1 ", "call a=1  c=1", "call a=1,c=1", "call a=1 c", "call a=1 c=",
            "call a= 1", "call a =1", "call a = 1", "call a=1=1", "call a==1", "call a:1", "call 1=a", "call a=1\r",
            "call a=1\t", "#", "# book", "call a=1 a=1", "call a=1 a=2", "call c=1 a=1", "call b=1 a=1",
            "call a=1 c=1 b=1", "call b=1 b=1", "call aa=1 a=1", "call c=1 b=1 a=1", "call a=1 c=2 c=3",
            "call a=1 b=1 a=1",
            *[f"keeper {name} 1" for name in NO_NAMES], *[f"call {name}=1" for name in NO_NAMES],
            *[f"call a=1 {name}=1" for name in NO_NAMES], *[f"keeper e {number}" for number in NO_NUMERALS],
            *[f"call a={number}" for number in NO_NUMERALS], *[f"call a=1 c={number}" for number in NO_NUMERALS],
            *[f"call a={number} c=1" for number in NO_NUMERALS])

# Lines of a text in which any line may stand behind each of them.
GOOD = ("keeper b 2", "call a=1 c=3", "call d=2", "keeper a 1", "keeper c 6", "call a=1", "call a=2 b=2 d=2",
        "keeper d 4", "call c=1")


def lines(*rows):
    return "".join(row + "\n" for row in rows)


class Written(unittest.TestCase):
    def test_as_told(self):
        self.assertEqual(Book(*KEEPERS).text(), TEXT)
        self.assertEqual(Book(("a", 6, [])).text(), "keeper a 6\n")

    def test_helpers_in_ascending_order(self):
        book = Book(("c", 1, [{"d": 1, "aa": 3, "b": 2, "a": 6}]), ("b", 1, []), ("aa", 1, []), ("d", 1, []),
                    ("a", 1, []))
        self.assertEqual(book.text(), lines("keeper c 1", "call a=6 aa=3 b=2 d=1", "keeper b 1", "keeper aa 1",
                                            "keeper d 1", "keeper a 1"))

    def test_calls_in_order(self):
        book = Book(("b", 1, [{"a": 2}, {"a": 1}, {"a": 3}, {"a": 1}]), ("a", 1, []))
        self.assertEqual(book.text(), lines("keeper b 1", "call a=2", "call a=1", "call a=3", "call a=1", "keeper a 1"))


class Read(unittest.TestCase):
    def check(self, text, keepers):
        book = Book.read(text)
        self.assertIs(book.__class__, Book)
        self.assertEqual(kinds(book.keepers()), kinds(keepers))
        self.assertEqual(book, Book(*keepers))
        self.assertEqual(book.text(), text)

    def test_as_told(self):
        self.check(TEXT, KEEPERS)
        self.check("keeper a 6\n", [("a", 6, [])])
        self.check(lines(*GOOD), [("b", 2, [{"a": 1, "c": 3}, {"d": 2}]), ("a", 1, []),
                                  ("c", 6, [{"a": 1}, {"a": 2, "b": 2, "d": 2}]), ("d", 4, [{"c": 1}])])

    def test_by_name_and_off_a_book(self):
        self.assertEqual(Book.read(text=TEXT), Book(*KEEPERS))
        self.assertEqual(Book(("z", 1, [])).read(TEXT), Book(*KEEPERS))

    def test_names_like_words(self):
        self.check(lines("keeper keeper 1", "call call=1", "keeper call 2", "call keeper=2", "call keeper=1"),
                   [("keeper", 1, [{"call": 1}]), ("call", 2, [{"keeper": 2}, {"keeper": 1}])])

    def test_each_number(self):
        for number in range(1, 7):
            self.check(lines(f"keeper a {number}", f"call b={7 - number}", "keeper b 1"),
                       [("a", number, [{"b": 7 - number}]), ("b", 1, [])])

    def test_there_and_back(self):
        dice = luck(1)
        for many in range(1, 8):
            for _ in range(20):
                keepers = lucky_keepers(dice, many, 20)
                self.check(Book(*keepers).text(), keepers)
        keepers = full_keepers(dice)
        self.check(Book(*keepers).text(), keepers)

    def test_the_greatest_books(self):
        names = ["abcdefg" + last for last in "abcdefg"]
        keepers = [(name, 6, [{other: 6 for other in names if other != name}] * 20) for name in names]
        self.check(Book(*keepers).text(), keepers)


class Refused(unittest.TestCase):
    def refused(self, text, line):
        self.assertEqual(kinds(raised(self, InvalidText, Book.read, text).line), kinds(line), text)

    def test_no_strings(self):
        for value in (None, True, False, 0, 1, (), ("keeper a 1\n",), [], ["keeper a 1\n"], ["keeper a 1"], {},
                      {"keeper a 1\n": 1}, [[(None, {"a": [1]})]]):
            self.refused(value, 0)

    def test_the_empty_string_and_empty_lines(self):
        self.refused("", 0)
        self.refused("\n", 0)
        self.refused("\n\n", 0)
        self.refused("\nkeeper a 1\n", 0)
        self.refused("keeper a 1\n\n", 1)
        self.refused("keeper a 1\n\nkeeper b 1\n", 1)

    def test_wrong_lines_at_each_place(self):
        for wrong in NO_LINES:
            for at in range(1, len(GOOD) + 1):
                self.refused(lines(*GOOD[:at], wrong, *GOOD[at:]), at)
                self.refused(lines(*GOOD[:at], wrong), at)
            self.refused(lines(wrong), 0)
            self.refused(lines(wrong, *GOOD), 0)

    def test_of_several_wrong_lines_the_first_one_counts(self):
        for at in range(1, len(GOOD)):
            for other in range(at, len(GOOD)):
                self.refused(lines(*GOOD[:at], "call a", *GOOD[at:other], "keeper", *GOOD[other:]), at)
        self.refused(lines("keeper a 1", "keeper a 1", "call"), 1)
        self.refused(lines("keeper a 1", "call", "keeper a 1"), 1)

    def test_names_that_earlier_keepers_have(self):
        for at in range(1, 7):
            for earlier in range(at):
                rows = [f"keeper {name} 1" for name in "abcdefg"]
                rows[at] = f"keeper {'abcdefg'[earlier]} 2"
                self.refused(lines(*rows), at)
        self.refused(lines("keeper a 1", "call b=1", "keeper b 1", "call a=1", "call a=2", "keeper a 1"), 5)

    def test_the_eighth_keeper(self):
        rows = [f"keeper {name} 1" for name in "abcdefgh"]
        self.assertEqual(len(Book.read(lines(*rows[:7]))), 7)
        self.refused(lines(*rows), 7)
        self.refused(lines(*rows, "nothing"), 7)
        self.refused(lines(*rows[:7], "call a=1", "call b=1", rows[7]), 9)
        self.refused(lines(*rows[:7], "call a=1", "nothing", rows[7]), 8)
        self.refused(lines(*rows[:7], "keeper a 1"), 7)

    def test_a_call_without_a_keeper(self):
        self.refused(lines("call a=1"), 0)
        self.refused(lines("call a=1", "keeper a 1"), 0)
        self.refused(lines("call b=1", "keeper a 1", "keeper b 1"), 0)

    def test_the_twenty_first_call(self):
        rows = ["keeper a 1", *["call b=1"] * 21, "keeper b 1"]
        self.assertEqual(len(Book.read(lines(*rows[:21], rows[-1])).calls("a")), 20)
        self.refused(lines(*rows), 21)
        self.refused(lines("keeper b 1", "call a=1", *rows[:-1]), 23)
        self.refused(lines(*rows[:-1], "nothing", *rows[-1:]), 21)
        self.refused(lines(*rows[:20], "call b=7", *rows[20:]), 20)
        self.refused(lines(*rows[:21], "keeper b 1", *["call a=1"] * 21), 42)

    def test_a_last_line_without_its_line_feed(self):
        self.refused("keeper a 1", 0)
        self.refused("call a=1", 0)
        self.refused("nothing", 0)
        self.refused(" ", 0)
        for at in range(1, len(GOOD)):
            self.refused(lines(*GOOD[:at]) + GOOD[at], at)
            self.refused(lines(*GOOD[:at]) + "nothing", at)
            self.refused(lines(*GOOD[:at]) + " ", at)
            self.refused(lines(*GOOD[:at], "nothing") + GOOD[at], at)

    def test_helpers_that_are_their_own_keepers_or_none(self):
        for at, row in enumerate(GOOD):
            own = [line.split(" ")[1] for line in GOOD[:at + 1] if line.startswith("keeper")][-1]
            if row.startswith("call"):
                for wrong in (f"call {own}=1", "call e=1", "call zz=6", f"call {own}=1 zz=1"):
                    self.refused(lines(*GOOD[:at], wrong, *GOOD[at + 1:]), at)
        self.refused(lines("keeper a 1", "call a=1"), 1)
        self.refused(lines("keeper a 1", "call b=1"), 1)
        self.refused(lines("keeper a 1", "call b=1 c=1", "keeper b 1", "call a=1"), 1)
        self.refused(lines("keeper a 1", "call b=1", "keeper b 1", "call a=1", "call a=1 b=1"), 4)
        self.refused(lines("keeper a 1", "call b=1 c=1", "call b=1 d=1", "keeper b 1", "keeper c 1"), 2)

    def test_the_first_call_with_a_wrong_helper_counts(self):
        self.refused(lines("keeper a 1", "call b=1", "call a=1", "keeper b 1", "call b=1"), 2)
        self.refused(lines("keeper a 1", "call c=1", "keeper b 1", "call b=1"), 1)
        self.refused(lines("keeper a 1", "keeper b 1", "call b=1", "keeper c 1", "call d=1"), 2)

    def test_wrong_lines_ahead_of_wrong_helpers(self):
        self.refused(lines("keeper a 1", "call a=1", "keeper b 1", "nothing"), 3)
        self.refused(lines("keeper a 1", "call b=1", "keeper a 1"), 2)
        self.refused(lines("keeper a 1", "call zz=1") + "keeper b 1", 2)
        self.refused(lines("keeper a 1", "call zz=1", ""), 2)
        self.refused(lines("keeper a 1", *["call a=1"] * 21), 21)
        self.refused(lines(*[f"keeper {name} 1" for name in "abcdefg"], "call g=1", "keeper h 1"), 8)

    def test_books_of_texts_that_were_refused_before(self):
        self.refused(lines("keeper a 1", "call b=1"), 1)
        self.assertEqual(Book.read("keeper a 1\n"), Book(("a", 1, [])))


if __name__ == "__main__":
    unittest.main()
