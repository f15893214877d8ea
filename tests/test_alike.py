import unittest
from itertools import combinations

from mendworth.books import Book
from mendworth.errors import DuplicateName, InvalidCall, InvalidCount, InvalidKeep, InvalidName
from tests.helper import NO_AMOUNTS, NO_NAMES, kinds, raised

NO_COUNTS = (None, True, False, 0, -1, 10 ** 30, "", "1", "a", (), (1,), [], [1], {}, {1: 1}, [[(None, {"a": [1]})]])


class Made(unittest.TestCase):
    def test_three(self):
        book = Book.alike("b", "a", "c", keep=4, helpers=2, letters=3)
        self.assertEqual(kinds(book.keepers()), kinds([("b", 4, [{"a": 3, "c": 3}]), ("a", 4, [{"b": 3, "c": 3}]),
                                                       ("c", 4, [{"b": 3, "a": 3}])]))
        book = Book.alike("b", "a", "c", keep=4, helpers=1, letters=3)
        self.assertEqual(kinds(book.keepers()), kinds([("b", 4, [{"a": 3}, {"c": 3}]), ("a", 4, [{"b": 3}, {"c": 3}]),
                                                       ("c", 4, [{"b": 3}, {"a": 3}])]))

    def test_by_positions_and_not_by_names(self):
        book = Book.alike("d", "b", "c", "a", keep=1, helpers=2)
        self.assertEqual(book.calls("b"), [{"d": 1, "c": 1}, {"d": 1, "a": 1}, {"c": 1, "a": 1}])
        self.assertEqual(book.calls("a"), [{"d": 1, "b": 1}, {"d": 1, "c": 1}, {"b": 1, "c": 1}])

    def test_abc_ahead_of_abd(self):
        calls = Book.alike("e", "a", "b", "c", "d", keep=1, helpers=3).calls("e")
        self.assertEqual(["".join(sorted(call)) for call in calls], ["abc", "abd", "acd", "bcd"])

    def test_all_sizes(self):
        for many in range(2, 8):
            names = ["g", "a", "f", "b", "e", "c", "d"][:many]
            for helpers in range(1, many):
                for letters in (1, 6):
                    book = Book.alike(*names, keep=letters, helpers=helpers, letters=letters)
                    self.assertIs(book.__class__, Book)
                    self.assertEqual(book.names(), names)
                    for name in names:
                        lots = combinations([other for other in names if other != name], helpers)
                        self.assertEqual(kinds(book.calls(name)),
                                         kinds([{helper: letters for helper in lot} for lot in lots]))
                        self.assertEqual(book.keep(name), letters)

    def test_twenty_calls(self):
        book = Book.alike(*"abcdefg", keep=1, helpers=3)
        self.assertEqual([len(book.calls(name)) for name in book], [20] * 7)

    def test_letters_left_out(self):
        self.assertEqual(Book.alike("a", "b", keep=5, helpers=1), Book.alike("a", "b", keep=5, helpers=1, letters=1))
        self.assertEqual(kinds(Book.alike("a", "b", keep=5, helpers=1).call("a")), kinds({"b": 1}))

    def test_off_a_book(self):
        self.assertEqual(Book(("z", 1, [])).alike("a", "b", keep=2, helpers=1), Book.alike("a", "b", keep=2, helpers=1))


class Refused(unittest.TestCase):
    def refused(self, error, *names, **named):
        caught = raised(self, error, Book.alike, *names, **named)
        return kinds({key: getattr(caught, key) for key in ("given", "name", "at") if hasattr(caught, key)})

    def test_counts(self):
        self.assertEqual(self.refused(InvalidCount, keep=1, helpers=1), kinds({"given": 0}))
        for many in (8, 9):
            self.assertEqual(self.refused(InvalidCount, *"abcdefghi"[:many], keep=1, helpers=1), kinds({"given": many}))

    def test_names(self):
        for value in NO_NAMES:
            self.assertEqual(self.refused(InvalidName, value, "b", keep=1, helpers=1), kinds({"name": value}))
            self.assertEqual(self.refused(InvalidName, "a", value, keep=1, helpers=1), kinds({"name": value}))
        self.assertEqual(self.refused(DuplicateName, "a", "b", "b", "a", keep=1, helpers=1), kinds({"name": "b"}))

    def test_keeps(self):
        for value in NO_AMOUNTS:
            self.assertEqual(self.refused(InvalidKeep, "a", "b", keep=value, helpers=1), kinds({"given": value}))

    def test_helpers(self):
        for value in NO_COUNTS:
            for many in range(1, 8):
                self.assertEqual(self.refused(InvalidCount, *"abcdefg"[:many], keep=1, helpers=value),
                                 kinds({"given": value}))
        for many in range(1, 8):
            for helpers in (many, many + 1):
                self.assertEqual(self.refused(InvalidCount, *"abcdefg"[:many], keep=1, helpers=helpers),
                                 kinds({"given": helpers}))

    def test_letters(self):
        for value in NO_AMOUNTS:
            for names in (["b", "a"], list("gfedcba")):
                self.assertEqual(self.refused(InvalidCall, *names, keep=1, helpers=1, letters=value),
                                 kinds({"name": names[0], "at": 0}))

    def test_order(self):
        wrong = {"keep": 0, "helpers": 0, "letters": 0}
        self.assertEqual(self.refused(InvalidCount, **wrong), kinds({"given": 0}))
        self.assertEqual(self.refused(InvalidCount, *[None] * 8, **wrong), kinds({"given": 8}))
        self.assertEqual(self.refused(InvalidName, "A", "A", **wrong), kinds({"name": "A"}))
        self.assertEqual(self.refused(InvalidKeep, "a", "a", **wrong), kinds({"given": 0}))
        self.assertEqual(self.refused(DuplicateName, "a", "a", keep=1, helpers=0, letters=0), kinds({"name": "a"}))
        self.assertEqual(self.refused(InvalidKeep, "a", "b", keep=7, helpers=9, letters=8), kinds({"given": 7}))
        self.assertEqual(self.refused(InvalidCount, "a", "b", keep=1, helpers=9, letters=8), kinds({"given": 9}))
        self.assertEqual(self.refused(InvalidCount, "a", keep=1, helpers=1, letters=8), kinds({"given": 1}))

    def test_only_by_keyword(self):
        with self.assertRaises(TypeError):
            Book.alike("a", "b")
        with self.assertRaises(TypeError):
            Book.alike("a", "b", keep=1)
        with self.assertRaises(TypeError):
            Book.alike("a", "b", helpers=1)


if __name__ == "__main__":
    unittest.main()
