import unittest

from mendworth.books import Book
from mendworth.errors import DuplicateName, InvalidCall, InvalidCount, InvalidKeep, InvalidKeeper, InvalidName
from tests.helper import NO_AMOUNTS, NO_NAMES, kinds, raised

# Each has not the form of a keeper.
NO_KEEPERS = (None, True, False, 0, 7, "", "x", "abc", (), ("x",), ("x", 1), ("x", 1, [], []), ("x", 1, [], None),
              ["x", 1, []], [("x", 1, [])], {}, {"x": (1, [])}, {0: "x", 1: 1, 2: []}, ("x", 1, None), ("x", 1, True),
              ("x", 1, 0), ("x", 1, ""), ("x", 1, "abc"), ("x", 1, {}), ("x", 1, {"a": 1}), ((), 1, {}),
              [[(None, {"a": [1]})]])

# Each is no call of the keeper b in a book of a, b and c.
NO_CALLS = (None, True, False, 0, 1, "", "a", "a=1", (), ("a",), ("a", 1), [], ["a"], [{"a": 1}], ({"a": 1},), {},
            {"b": 1}, {"a": 1, "b": 1}, {"b": 1, "a": 1}, {"d": 1}, {"a": 1, "d": 1}, {"A": 1}, {"": 1}, {"aa": 1},
            {"a ": 1}, {None: 1}, {True: 1}, {0: 1}, {(): 1}, {("a",): 1}, {("a", "c"): 1}, {"a": 1, None: 1},
            *[{"a": letters} for letters in NO_AMOUNTS], *[{"a": 1, "c": letters} for letters in NO_AMOUNTS],
            *[{"c": letters, "a": 1} for letters in NO_AMOUNTS], [[(None, {"a": [1]})]])


def steady(*names):
    return [(name, 1, []) for name in names]


def with_calls(*calls):
    """A book in which b has these calls."""
    return Book(("a", 1, []), ("b", 2, calls), ("c", 3, [{"a": 1}]))


class Counts(unittest.TestCase):
    def test_none(self):
        self.assertEqual(kinds(raised(self, InvalidCount, Book).given), "0")

    def test_one_to_seven(self):
        for many in range(1, 8):
            self.assertEqual(len(Book(*steady(*"abcdefg"[:many]))), many)

    def test_eight_and_more(self):
        for many in range(8, 12):
            self.assertEqual(kinds(raised(self, InvalidCount, Book, *steady(*"abcdefghijkl"[:many])).given), str(many))

    def test_ahead_of_all_else(self):
        self.assertEqual(raised(self, InvalidCount, Book, *[None] * 8).given, 8)
        self.assertEqual(raised(self, InvalidCount, Book, *steady("a") * 9).given, 9)
        self.assertEqual(raised(self, InvalidCount, Book, *[("", 0, [None])] * 10).given, 10)


class Forms(unittest.TestCase):
    def test_each_place(self):
        for value in NO_KEEPERS:
            for many in (1, 2, 3, 7):
                for at in range(many):
                    rows = steady(*"abcdefg"[:many])
                    rows[at] = value
                    self.assertEqual(kinds(raised(self, InvalidKeeper, Book, *rows).at), str(at))

    def test_the_first_one_counts(self):
        self.assertEqual(raised(self, InvalidKeeper, Book, ("a", 1, []), ["b", 1, []], None).at, 1)

    def test_ahead_of_what_is_within(self):
        self.assertEqual(raised(self, InvalidKeeper, Book, ("", 0, None)).at, 0)
        self.assertEqual(raised(self, InvalidKeeper, Book, ["", 0, []]).at, 0)
        self.assertEqual(raised(self, InvalidKeeper, Book, ("a", 1, []), ("a", 0, {})).at, 1)

    def test_tuples_of_calls(self):
        self.assertEqual(Book(("a", 1, ()), ("b", 2, ({"a": 1},))), Book(("a", 1, []), ("b", 2, [{"a": 1}])))


class Names(unittest.TestCase):
    def test_each_place(self):
        for value in NO_NAMES:
            for many in (1, 2, 7):
                for at in range(many):
                    rows = steady(*"abcdefg"[:many])
                    rows[at] = (value, 1, [])
                    self.assertEqual(kinds(raised(self, InvalidName, Book, *rows).name), kinds(value))

    def test_duplicates(self):
        for many in (2, 3, 7):
            for at in range(many):
                for earlier in range(at):
                    rows = steady(*"abcdefg"[:many])
                    rows[at] = rows[earlier]
                    self.assertEqual(kinds(raised(self, DuplicateName, Book, *rows).name), kinds("abcdefg"[earlier]))

    def test_the_first_duplicate_counts(self):
        self.assertEqual(raised(self, DuplicateName, Book, *steady("a", "b", "b", "a")).name, "b")
        self.assertEqual(raised(self, DuplicateName, Book, *steady("a", "b", "a", "b")).name, "a")


class Keeps(unittest.TestCase):
    def test_one_to_six(self):
        for keep in range(1, 7):
            self.assertEqual(Book(("a", keep, [])).keep("a"), keep)

    def test_each_place(self):
        for value in NO_AMOUNTS:
            for many in (1, 2, 7):
                for at in range(many):
                    rows = steady(*"abcdefg"[:many])
                    rows[at] = (rows[at][0], value, [])
                    self.assertEqual(kinds(raised(self, InvalidKeep, Book, *rows).given), kinds(value))


class TwoWrong(unittest.TestCase):
    def test_in_one_keeper(self):
        self.assertEqual(raised(self, InvalidName, Book, ("A", 0, [])).name, "A")
        self.assertEqual(raised(self, InvalidName, Book, (None, None, [None])).name, None)
        self.assertEqual(raised(self, DuplicateName, Book, ("a", 1, []), ("a", 0, [{}])).name, "a")
        self.assertEqual(raised(self, InvalidKeep, Book, ("a", 0, [{}])).given, 0)

    def test_in_two_keepers(self):
        wrong = [(None, InvalidKeeper), (("", 1, []), InvalidName), (("a", 1, []), DuplicateName),
                 (("q", 7, []), InvalidKeep)]
        for one, error in wrong:
            for other, _ in wrong:
                raised(self, error, Book, ("a", 1, []), one, other)
                raised(self, error, Book, ("a", 1, []), one, ("b", 1, []), other)

    def test_two_wrong_names_or_keeps(self):
        self.assertEqual(raised(self, InvalidName, Book, ("a", 1, []), ("B", 1, []), ("C", 1, [])).name, "B")
        self.assertEqual(raised(self, InvalidKeep, Book, ("a", 8, []), ("b", 9, [])).given, 8)

    def test_ahead_of_calls(self):
        wrong_calls = ("a", 1, [None, {"a": 1}, {"b": 9}])
        self.assertEqual(raised(self, InvalidKeeper, Book, wrong_calls, None).at, 1)
        self.assertEqual(raised(self, InvalidName, Book, wrong_calls, ("b", 1, []), ("", 1, [])).name, "")
        self.assertEqual(raised(self, DuplicateName, Book, wrong_calls, ("a", 1, [])).name, "a")
        self.assertEqual(raised(self, InvalidKeep, Book, wrong_calls, ("b", True, [])).given, True)


class Calls(unittest.TestCase):
    def check(self, error, name, at):
        self.assertEqual(kinds([error.name, error.at]), kinds([name, at]))

    def test_helpers_behind_and_ahead(self):
        book = with_calls({"a": 1}, {"c": 6}, {"c": 2, "a": 3})
        self.assertEqual(book.calls("b"), [{"a": 1}, {"c": 6}, {"a": 3, "c": 2}])
        for letters in range(1, 7):
            self.assertEqual(with_calls({"a": letters}).call("b"), {"a": letters})

    def test_all_others_as_helpers(self):
        names = "abcdefg"
        rows = [(name, 1, [{other: 6 for other in names if other != name}]) for name in names]
        self.assertEqual(Book(*rows).keepers(), rows)

    def test_no_calls(self):
        for value in NO_CALLS:
            self.check(raised(self, InvalidCall, with_calls, value), "b", 0)
            self.check(raised(self, InvalidCall, with_calls, {"a": 1}, value), "b", 1)
            self.check(raised(self, InvalidCall, with_calls, {"a": 1}, value, {"c": 1}), "b", 1)
            self.check(raised(self, InvalidCall, with_calls, *[{"a": 1}] * 19, value), "b", 19)

    def test_a_call_of_the_only_keeper(self):
        for value in ({}, {"a": 1}, {"b": 1}, None, []):
            self.check(raised(self, InvalidCall, Book, ("a", 1, [value])), "a", 0)

    def test_each_keeper(self):
        for at, name in enumerate("abcdefg"):
            for wrong in ({name: 1}, {"h": 1}, None, {}, {"abcdefga"[at + 1]: 0}):
                rows = steady(*"abcdefg")
                rows[at] = (name, 1, [{"gfedcbg"[at]: 1} if "gfedcbg"[at] != name else {"a": 1}, wrong])
                self.check(raised(self, InvalidCall, Book, *rows), name, 1)

    def test_the_first_wrong_one_counts(self):
        self.check(raised(self, InvalidCall, with_calls, {"a": 1}, None, {}), "b", 1)
        self.check(raised(self, InvalidCall, Book, ("a", 1, []), ("b", 1, [{"a": 1}, {}]), ("c", 1, [{}])), "b", 1)
        self.check(raised(self, InvalidCall, Book, ("a", 1, [{"b": 1}]), ("b", 1, [{"b": 1}]), ("c", 1, [])), "b", 0)
        self.check(raised(self, InvalidCall, Book, ("c", 1, [{"b": 1}, {"b": 7}]), ("b", 1, [{}]), ("a", 1, [{}])),
                   "c", 1)

    def test_twenty_calls(self):
        self.assertEqual(with_calls(*[{"a": 1}] * 20).calls("b"), [{"a": 1}] * 20)
        rows = [(name, 1, [{other: 2} for other in "abcdefg" if other != name] * 3 + [{"ba"[name == "b"]: 1}] * 2)
                for name in "abcdefg"]
        self.assertEqual([len(Book(*rows).calls(name)) for name in "abcdefg"], [20] * 7)

    def test_twenty_one_calls(self):
        self.check(raised(self, InvalidCall, with_calls, *[{"a": 1}] * 21), "b", 20)
        self.check(raised(self, InvalidCall, with_calls, *[{"a": 1}] * 30), "b", 20)
        self.check(raised(self, InvalidCall, with_calls, *[{"a": 1}] * 20, None), "b", 20)
        self.check(raised(self, InvalidCall, with_calls, *[{"a": 1}] * 21, None), "b", 20)
        self.check(raised(self, InvalidCall, with_calls, *[{"a": 1}] * 19, {}, *[{"a": 1}] * 5), "b", 19)
        self.check(raised(self, InvalidCall, with_calls, {}, *[{"a": 1}] * 20), "b", 0)

    def test_too_many_calls_of_one_and_wrong_calls_of_another(self):
        many = [{"c": 1}] * 21
        self.check(raised(self, InvalidCall, Book, ("a", 1, many), ("b", 1, [{}]), ("c", 1, [])), "a", 20)
        self.check(raised(self, InvalidCall, Book, ("a", 1, [None]), ("b", 1, many), ("c", 1, [])), "a", 0)


if __name__ == "__main__":
    unittest.main()
