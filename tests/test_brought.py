import unittest
from itertools import permutations

from mendworth.books import Book
from mendworth.errors import DuplicateName, UnknownName
from mendworth.worths import along, brought
from tests.helper import NO_NAMES, brings, full_keepers, kinds, lots_in_order, luck, lucky_keepers, raised, sameness

BOOK = Book(("c", 5, [{"a": 1, "b": 2}, {"b": 1, "d": 3}]), ("a", 2, [{"b": 6}]), ("b", 3, []), ("d", 6, [{"c": 1}]))
NO_KEEPERS = (*NO_NAMES, "e", "aa", "abcd")


class Brought(unittest.TestCase):
    def test_steady_keepers_bring_what_they_keep(self):
        for lot in lots_in_order(["c", "a", "d"]):
            self.assertEqual(sameness(brought(BOOK, "b", *lot)), "3")

    def test_no_more_than_they_keep(self):
        self.assertEqual(brought(BOOK, "a"), 2)
        self.assertEqual(brought(BOOK, "a", "c", "d"), 2)

    def test_helpers_outside(self):
        self.assertEqual(brought(BOOK, "c"), 3)
        self.assertEqual(brought(BOOK, "d"), 1)
        self.assertEqual(brought(BOOK, "d", "a", "b"), 1)

    def test_helpers_within(self):
        self.assertEqual(brought(BOOK, "a", "b"), 0)
        self.assertEqual(brought(BOOK, "d", "c"), 0)
        self.assertEqual(brought(BOOK, "c", "a"), 2)
        self.assertEqual(brought(BOOK, "c", "b"), 1)
        self.assertEqual(brought(BOOK, "c", "d"), 1)
        self.assertEqual(brought(BOOK, "c", "a", "d"), 1)
        self.assertEqual(brought(BOOK, "c", "a", "b"), 0)
        self.assertEqual(brought(BOOK, "c", "b", "d"), 0)

    def test_the_call_that_brings_least(self):
        book = Book(("a", 6, [{"b": 5}, {"c": 3}, {"d": 4}]), ("b", 1, []), ("c", 1, []), ("d", 1, []))
        self.assertEqual([brought(book, "a"), brought(book, "a", "b"), brought(book, "a", "d")], [3, 0, 0])
        book = Book(("a", 6, [{"b": 2, "c": 2}, {"c": 3, "d": 3}]), ("b", 1, []), ("c", 1, []), ("d", 1, []))
        self.assertEqual([brought(book, "a", *lot) for lot in ("", "b", "c", "d", "bd", "cd")], [4, 2, 2, 3, 2, 0])

    def test_any_order(self):
        for order in permutations(["a", "b", "d"]):
            self.assertEqual(brought(BOOK, "c", *order), 0)
        for order in permutations(["d", "a"]):
            self.assertEqual(brought(BOOK, "c", *order), 1)

    def test_by_name(self):
        self.assertEqual(brought(book=BOOK, name="c"), 3)
        self.assertEqual(brought(BOOK, name="c"), 3)

    def test_against_the_definition(self):
        dice = luck(1)
        for many in range(1, 8):
            for keepers in [lucky_keepers(dice, many, 20) for _ in range(6)] + [full_keepers(dice)] * (many == 7):
                book = Book(*keepers)
                for name in book:
                    for lot in lots_in_order([other for other in book if other != name])[::1 + many // 4]:
                        self.assertEqual(brought(book, name, *lot[::-1]), brings(keepers, name, lot))


class Along(unittest.TestCase):
    def test_nobody_and_one(self):
        self.assertEqual(sameness(along(BOOK)), "0")
        self.assertEqual([along(BOOK, name) for name in BOOK], [3, 2, 3, 1])
        self.assertEqual(along(book=BOOK), 0)

    def test_orders(self):
        self.assertEqual([along(BOOK, "a", "b"), along(BOOK, "b", "a")], [5, 3])
        self.assertEqual([along(BOOK, "c", "d"), along(BOOK, "d", "c")], [3, 2])
        self.assertEqual(along(BOOK, "b", "a", "d", "c"), 3 + 0 + 1 + 0)
        self.assertEqual(along(BOOK, "c", "d", "b", "a"), 3 + 0 + 3 + 0)
        self.assertEqual(along(BOOK, "a", "d", "c", "b"), 2 + 1 + 1 + 3)

    def test_against_the_definition(self):
        dice = luck(2)
        for many in range(1, 8):
            keepers = lucky_keepers(dice, many, 6)
            book = Book(*keepers)
            for lot in lots_in_order(book.names())[::1 + many // 2]:
                order = dice.sample(lot, len(lot))
                told = sum(brings(keepers, name, order[:at]) for at, name in enumerate(order))
                self.assertEqual(along(book, *order), told)


class Lots(unittest.TestCase):
    """The errors of a lot, of which the first name is the keeper's own."""

    def test_unknown_names(self):
        for value in NO_KEEPERS:
            for values in ((value,), ("a", value), (value, "a"), ("a", "b", value, "c"), (value, "a", "a"),
                           ("a", "a", value), ("c", "a", "b", "d", value)):
                for call in (brought, along):
                    self.assertEqual(kinds(raised(self, UnknownName, call, BOOK, *values).name), kinds(value))

    def test_the_first_unknown_name_counts(self):
        for call in (brought, along):
            self.assertEqual(kinds(raised(self, UnknownName, call, BOOK, "a", None, "e", []).name), "None")
            self.assertEqual(kinds(raised(self, UnknownName, call, BOOK, ["a"], "a", "e").name), kinds(["a"]))
            self.assertEqual(kinds(raised(self, UnknownName, call, BOOK, "a", "e", "e").name), kinds("e"))
            self.assertEqual(kinds(raised(self, UnknownName, call, BOOK, ("a", "b")).name), kinds(("a", "b")))

    def test_duplicates(self):
        for call in (brought, along):
            for values, name in (("aa", "a"), ("aba", "a"), ("abb", "b"), ("abba", "b"), ("abab", "a"), ("cabdc", "c")):
                self.assertEqual(kinds(raised(self, DuplicateName, call, BOOK, *values).name), kinds(name))

    def test_nothing_is_changed(self):
        text = BOOK.text()
        order = ["b", "a"]
        along(BOOK, *order)
        brought(BOOK, "c", *order)
        self.assertEqual([BOOK.text(), order], [text, ["b", "a"]])


if __name__ == "__main__":
    unittest.main()
