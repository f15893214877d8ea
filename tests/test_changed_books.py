import unittest

from mendworth.books import Book
from mendworth.errors import (DuplicateName, Full, InUse, InvalidCall, InvalidCount, InvalidKeep, InvalidName,
                              UnknownCall, UnknownName)
from tests.helper import NO_AMOUNTS, NO_NAMES, kinds, luck, lucky_keepers, raised
from tests.test_keepers import NO_CALLS, steady

KEEPERS = (("a", 1, []), ("b", 2, [{"a": 1, "c": 3}, {"c": 6}, {"a": 4}]), ("c", 6, [{"b": 5}]), ("d", 3, [{"b": 2}]))
NO_KEEPERS = (*NO_NAMES, "e", "aa", "abcd")
SEVEN = tuple(steady(*"abcdefg"))
NO_INDEXES = (None, True, False, -1, -3, 3, 4, 10 ** 30, "", "0", "a", (), (0,), [], [0], {}, {0: 1})


class Changes(unittest.TestCase):
    """Each test asks the same book, which must stay as it was."""

    def setUp(self):
        self.book = Book(*KEEPERS)

    def tearDown(self):
        self.assertEqual(kinds(self.book.keepers()), kinds(list(KEEPERS)))
        self.assertEqual(self.book.names(), ["a", "b", "c", "d"])

    def check(self, book, *keepers):
        self.assertIs(book.__class__, Book)
        self.assertEqual(kinds(book.keepers()), kinds(list(keepers)))
        self.assertEqual(book, Book(*keepers))
        self.assertEqual(book.names(), [name for name, _, _ in keepers])

    def refused(self, error, told, call, *values, **named):
        """What an error tells, by its parameters in order."""
        caught = raised(self, error, call, *values, **named)
        self.assertEqual(kinds([getattr(caught, key) for key in told]), kinds(list(told.values())))


class WithKeeper(Changes):
    def test_returned(self):
        self.check(self.book.with_keeper("e", 4), *KEEPERS, ("e", 4, []))
        self.check(self.book.with_keeper("aa", 6, {"a": 1}), *KEEPERS, ("aa", 6, [{"a": 1}]))
        self.check(self.book.with_keeper("e", 1, {"a": 1, "b": 6}, {"d": 2}), *KEEPERS,
                   ("e", 1, [{"a": 1, "b": 6}, {"d": 2}]))
        self.check(self.book.with_keeper(keep=5, name="e"), *KEEPERS, ("e", 5, []))

    def test_up_to_seven(self):
        for many in range(1, 7):
            self.check(Book(*SEVEN[:many]).with_keeper("h", 2), *SEVEN[:many], ("h", 2, []))

    def test_full(self):
        full = Book(*SEVEN)
        for values in (("h", 1), ("h", 1, {"a": 1}), ("a", 1), ("", 0), (None, None, None), ("h", 7, {})):
            self.refused(Full, {"allowed": 7}, full.with_keeper, *values)

    def test_names(self):
        for value in NO_NAMES:
            self.refused(InvalidName, {"name": value}, self.book.with_keeper, value, 1)
            self.refused(InvalidName, {"name": value}, self.book.with_keeper, value, 0, None)
        for name in "abcd":
            self.refused(DuplicateName, {"name": name}, self.book.with_keeper, name, 1)
            self.refused(DuplicateName, {"name": name}, self.book.with_keeper, name, 0, {})

    def test_keeps(self):
        for value in NO_AMOUNTS:
            self.refused(InvalidKeep, {"given": value}, self.book.with_keeper, "e", value)
            self.refused(InvalidKeep, {"given": value}, self.book.with_keeper, "e", value, None)

    def test_calls(self):
        for value in ({}, {"e": 1}, {"f": 1}, {"a": 0}, {"a": 7}, {"a": 1, "e": 1}, None, [], 1, "a", {"a": True}):
            self.refused(InvalidCall, {"name": "e", "at": 0}, self.book.with_keeper, "e", 1, value)
            self.refused(InvalidCall, {"name": "e", "at": 1}, self.book.with_keeper, "e", 1, {"a": 1}, value, None)
        self.assertEqual(len(self.book.with_keeper("e", 1, *[{"a": 1}] * 20).calls("e")), 20)
        self.refused(InvalidCall, {"name": "e", "at": 20}, self.book.with_keeper, "e", 1, *[{"a": 1}] * 21)


class WithoutKeeper(Changes):
    def test_returned(self):
        self.check(self.book.without_keeper("d"), *KEEPERS[:3])
        self.check(self.book.without_keeper(name="d"), *KEEPERS[:3])
        for at in range(7):
            self.check(Book(*SEVEN).without_keeper("abcdefg"[at]), *SEVEN[:at], *SEVEN[at + 1:])

    def test_a_keeper_with_calls(self):
        self.check(Book(("a", 1, [{"b": 1}]), ("b", 2, [])).without_keeper("a"), ("b", 2, []))

    def test_unknown(self):
        for value in NO_KEEPERS:
            self.refused(UnknownName, {"name": value}, self.book.without_keeper, value)
        self.refused(UnknownName, {"name": "b"}, Book(("a", 1, [])).without_keeper, "b")

    def test_in_use(self):
        for name in "abc":
            self.refused(InUse, {"name": name}, self.book.without_keeper, name)
        for calls in ([{"b": 1}, {"c": 1}], [{"c": 1}, {"b": 1}], [{"b": 1, "c": 1}], [{"c": 1, "b": 1}]):
            for rows in ((("a", 1, calls), ("b", 1, []), ("c", 1, [])), (("c", 1, []), ("b", 1, []), ("a", 1, calls))):
                self.refused(InUse, {"name": "b"}, Book(*rows).without_keeper, "b")
                self.refused(InUse, {"name": "c"}, Book(*rows).without_keeper, "c")

    def test_the_only_one(self):
        self.refused(InvalidCount, {"given": 0}, Book(("a", 1, [])).without_keeper, "a")


class WithKeep(Changes):
    def test_returned(self):
        for keep in range(1, 7):
            self.check(self.book.with_keep("b", keep), KEEPERS[0], ("b", keep, KEEPERS[1][2]), *KEEPERS[2:])
            self.check(self.book.with_keep("a", keep), ("a", keep, []), *KEEPERS[1:])
        self.check(self.book.with_keep(keep=1, name="d"), *KEEPERS[:3], ("d", 1, KEEPERS[3][2]))

    def test_errors(self):
        for value in NO_KEEPERS:
            self.refused(UnknownName, {"name": value}, self.book.with_keep, value, 1)
            self.refused(UnknownName, {"name": value}, self.book.with_keep, value, 0)
        for value in NO_AMOUNTS:
            for name in "abcd":
                self.refused(InvalidKeep, {"given": value}, self.book.with_keep, name, value)


class WithCall(Changes):
    def test_returned(self):
        self.check(self.book.with_call("a", {"d": 6}), ("a", 1, [{"d": 6}]), *KEEPERS[1:])
        self.check(self.book.with_call("b", {"a": 1, "d": 2}), KEEPERS[0],
                   ("b", 2, [*KEEPERS[1][2], {"a": 1, "d": 2}]), *KEEPERS[2:])
        self.check(self.book.with_call(call={"b": 2}, name="d"), *KEEPERS[:3], ("d", 3, [{"b": 2}, {"b": 2}]))

    def test_unknown(self):
        for value in NO_KEEPERS:
            self.refused(UnknownName, {"name": value}, self.book.with_call, value, {"a": 1})
            self.refused(UnknownName, {"name": value}, self.book.with_call, value, None)

    def test_no_calls(self):
        # What is no call of b in a book of a, b and c is none here, but for those with d, a keeper here.
        for value in NO_CALLS:
            if not (isinstance(value, dict) and "d" in value):
                self.refused(InvalidCall, {"name": "b", "at": 3}, self.book.with_call, "b", value)
        for value in ({"a": 1}, {"a": 1, "b": 1}, {"e": 1}, {}, None, {"b": 0}):
            self.refused(InvalidCall, {"name": "a", "at": 0}, self.book.with_call, "a", value)

    def test_the_twenty_first(self):
        book = Book(("a", 1, [{"b": 1}] * 19), ("b", 1, []))
        twenty = book.with_call("a", {"b": 2})
        self.check(twenty, ("a", 1, [{"b": 1}] * 19 + [{"b": 2}]), ("b", 1, []))
        for value in ({"b": 1}, {}, None, {"a": 1}):
            self.refused(InvalidCall, {"name": "a", "at": 20}, twenty.with_call, "a", value)


class WithoutCall(Changes):
    def test_returned(self):
        calls = KEEPERS[1][2]
        self.check(self.book.without_call("b"), KEEPERS[0], ("b", 2, calls[1:]), *KEEPERS[2:])
        self.check(self.book.without_call("b", 0), KEEPERS[0], ("b", 2, calls[1:]), *KEEPERS[2:])
        self.check(self.book.without_call("b", 1), KEEPERS[0], ("b", 2, [calls[0], calls[2]]), *KEEPERS[2:])
        self.check(self.book.without_call(at=2, name="b"), KEEPERS[0], ("b", 2, calls[:2]), *KEEPERS[2:])
        self.check(self.book.without_call("c"), *KEEPERS[:2], ("c", 6, []), KEEPERS[3])

    def test_equal_calls(self):
        book = Book(("a", 1, [{"b": 1}, {"b": 2}, {"b": 1}]), ("b", 1, []))
        self.check(book.without_call("a", 2), ("a", 1, [{"b": 1}, {"b": 2}]), ("b", 1, []))
        self.check(book.without_call("a", 0), ("a", 1, [{"b": 2}, {"b": 1}]), ("b", 1, []))

    def test_errors(self):
        for value in NO_KEEPERS:
            self.refused(UnknownName, {"name": value}, self.book.without_call, value)
            self.refused(UnknownName, {"name": value}, self.book.without_call, value, None)
        for value in NO_INDEXES:
            self.refused(UnknownCall, {"at": value}, self.book.without_call, "b", value)
        self.refused(UnknownCall, {"at": 0}, self.book.without_call, "a")
        self.refused(UnknownCall, {"at": 1}, self.book.without_call, "c", 1)


class Renamed(Changes):
    def test_returned(self):
        self.check(self.book.renamed("a", "e"), ("e", 1, []), ("b", 2, [{"e": 1, "c": 3}, {"c": 6}, {"e": 4}]),
                   *KEEPERS[2:])
        self.check(self.book.renamed("b", "zzzzzzzz"), KEEPERS[0], ("zzzzzzzz", 2, KEEPERS[1][2]),
                   ("c", 6, [{"zzzzzzzz": 5}]), ("d", 3, [{"zzzzzzzz": 2}]))
        self.check(self.book.renamed(new="aa", old="d"), *KEEPERS[:3], ("aa", 3, [{"b": 2}]))

    def test_there_and_back(self):
        dice = luck(1)
        for many in range(1, 8):
            book = Book(*lucky_keepers(dice, many, 20))
            for name in book:
                other = book.renamed(name, "other")
                self.assertEqual(other.names(), ["other" if one == name else one for one in book])
                self.assertNotIn(f"{name}=", other.text().replace("other=", "").replace("longname=", ""))
                self.assertEqual(other.renamed("other", name), book)

    def test_errors(self):
        for value in NO_KEEPERS:
            for new in ("e", "a", "", None):
                self.refused(UnknownName, {"name": value}, self.book.renamed, value, new)
        for value in NO_NAMES:
            self.refused(InvalidName, {"name": value}, self.book.renamed, "a", value)
        for old in "abcd":
            for new in "abcd":
                self.refused(DuplicateName, {"name": new}, self.book.renamed, old, new)


class Joined(Changes):
    def test_returned(self):
        other = Book(("e", 5, [{"f": 1}]), ("aa", 4, []), ("f", 3, [{"e": 2, "aa": 1}]))
        self.check(self.book | other, *KEEPERS, *other.keepers())
        self.check(other | self.book, *other.keepers(), *KEEPERS)
        self.check(other, ("e", 5, [{"f": 1}]), ("aa", 4, []), ("f", 3, [{"e": 2, "aa": 1}]))

    def test_common_names(self):
        for name in "abcd":
            self.refused(DuplicateName, {"name": name}, lambda one, other: one | other, self.book,
                         Book(("e", 1, []), (name, 1, [])))
        self.refused(DuplicateName, {"name": "c"}, lambda one, other: one | other, self.book, Book(*steady("c", "a")))
        self.refused(DuplicateName, {"name": "a"}, lambda one: one | one, Book(*steady("a", "b")))

    def test_too_many(self):
        self.check(Book(*SEVEN[:3]) | Book(*SEVEN[3:]), *SEVEN)
        self.refused(InvalidCount, {"given": 8}, lambda one, other: one | other, Book(*SEVEN), Book(*steady("h")))
        self.refused(InvalidCount, {"given": 8}, lambda one: one | one, self.book)
        self.refused(InvalidCount, {"given": 14}, lambda one: one | one, Book(*SEVEN))


class Multiplied(Changes):
    def times(self, times):
        return Book(("a", times, []), ("b", 2 * times, [{"a": times, "c": 3 * times}]), ("c", times, [{"b": times}]))

    def test_returned(self):
        self.check(self.times(1) * 2, *self.times(2).keepers())
        self.check(self.book * 1, *KEEPERS)
        self.check(Book(("a", 3, [{"b": 1}]), ("b", 2, [])) * 2, ("a", 6, [{"b": 2}]), ("b", 4, []))
        self.check(Book(("a", 1, [{"b": 1}]), ("b", 1, [])) * 6, ("a", 6, [{"b": 6}]), ("b", 6, []))
        self.assertEqual(kinds(self.times(1).keepers()), kinds(self.times(1).keepers()))

    def test_keeps_beyond(self):
        self.refused(InvalidKeep, {"given": 12}, lambda: self.book * 2)
        self.refused(InvalidKeep, {"given": 7}, lambda: self.book * 7)
        self.refused(InvalidKeep, {"given": 2 * 10 ** 30}, lambda: Book(("a", 2, [])) * 10 ** 30)
        self.refused(InvalidKeep, {"given": 8}, lambda: Book(("a", 1, [{"b": 6}]), ("b", 4, [])) * 2)

    def test_zero_and_below(self):
        self.refused(InvalidKeep, {"given": 0}, lambda: self.book * 0)
        self.refused(InvalidKeep, {"given": -1}, lambda: self.book * -1)
        self.refused(InvalidKeep, {"given": -4}, lambda: Book(("a", 2, [])) * -2)

    def test_calls_beyond(self):
        self.refused(InvalidCall, {"name": "b", "at": 1},
                     lambda: Book(("a", 1, [{"b": 3}]), ("b", 1, [{"a": 3}, {"a": 4}]), ("c", 1, [{"a": 5}])) * 2)
        self.refused(InvalidCall, {"name": "a", "at": 0}, lambda: Book(("a", 1, [{"b": 2}]), ("b", 1, [])) * 4)


class Equality(unittest.TestCase):
    def test_equal(self):
        book = Book(*KEEPERS)
        self.assertIs(book == Book(*KEEPERS), True)
        self.assertIs(book != Book(*KEEPERS), False)
        self.assertEqual(book, book)
        turned = Book(KEEPERS[0], ("b", 2, ({"c": 3, "a": 1}, {"c": 6}, {"a": 4})), *KEEPERS[2:])
        self.assertEqual(book, turned)
        self.assertEqual(book, book.with_keep("a", 5).with_keep("a", 1))

    def test_one_thing_changed(self):
        book = Book(*KEEPERS)
        a, b, c, d = KEEPERS
        others = [Book(b, a, c, d), Book(a, b, d, c), Book(d, c, b, a), Book(a, b, c), book.with_keep("a", 2),
                  book.with_keep("d", 4), book.renamed("d", "e"), book.with_call("a", {"b": 1}), book.without_call("b"),
                  book.without_call("b", 2), book.with_keeper("e", 1), Book(a, ("b", 2, b[2][::-1]), c, d),
                  Book(a, ("b", 2, [{"a": 2, "c": 3}, *b[2][1:]]), c, d), Book(a, b, ("c", 6, [{"b": 4}]), d),
                  Book(a, ("b", 2, [{"a": 3, "c": 1}, *b[2][1:]]), c, d), Book(a, b, c, ("d", 3, [{"a": 2}])),
                  Book(a, b, c, ("d", 3, [{"b": 2}, {"b": 2}]))]
        for at, other in enumerate(others):
            self.assertIs(book == other, False)
            self.assertIs(other == book, False)
            self.assertIs(book != other, True)
            self.assertFalse(any(other == third for third in others[:at]))

    def test_nothing_else(self):
        book = Book(("a", 1, []))
        for value in (None, True, False, 0, 1, "a", "Book(1 keepers)", "keeper a 1\n", ("a", 1, []), ["a"],
                      [("a", 1, [])], (("a", 1, []),), {}, {"a": 1}, book.text(), book.keepers(), book.names()):
            self.assertIs(book == value, False)
            self.assertIs(value == book, False)
            self.assertIs(book != value, True)


if __name__ == "__main__":
    unittest.main()
