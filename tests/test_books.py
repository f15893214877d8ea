import unittest

from mendworth.books import Book, is_name
from mendworth.errors import UnknownCall, UnknownName
from tests.helper import NO_NAMES, kinds, luck, lucky_keepers, raised, sameness


def keepers():
    return [("b", 2, [{"a": 1, "longname": 3}, {"longname": 6}]), ("a", 1, []), ("longname", 6, [{"b": 5}])]


# No name of the book above; the last ones are names of others.
NO_KEEPERS = (*NO_NAMES, "c", "bb", "longnam", "aaaaaaaa")


class Names(unittest.TestCase):
    def test_names(self):
        for name in ("a", "z", "m", "az", "zzzzzzzz", "abcdefgh", "keeper", "call", "true", "none"):
            self.assertIs(is_name(name), True, name)

    def test_other_values(self):
        for value in NO_NAMES:
            self.assertIs(is_name(value), False, value)

    def test_each_character(self):
        for code in range(ord(" "), ord("~") + 1):
            for form in ("{}", "a{}", "{}a", "abc{}efgh"):
                self.assertIs(is_name(form.replace("{}", chr(code))), "a" <= chr(code) <= "z", chr(code))

    def test_each_length(self):
        for many in range(20):
            self.assertIs(is_name("q" * many), 1 <= many <= 8)

    def test_by_name(self):
        self.assertIs(is_name(value="a"), True)


class Told(unittest.TestCase):
    def setUp(self):
        self.book = Book(*keepers())

    def test_as_the_document_tells(self):
        book = Book(("a", 2, [{"b": 1, "c": 1}]), ("b", 1, []), ("c", 1, [{"a": 1}]))
        self.assertEqual([book.text(), book.kept_by_all(), book.call("a"), "b" in book, (book * 2).keep("a")],
                         ["keeper a 2\ncall b=1 c=1\nkeeper b 1\nkeeper c 1\ncall a=1\n", 4, {"b": 1, "c": 1}, True, 4])

    def test_names(self):
        self.assertEqual(sameness(self.book.names()), "['b', 'a', 'longname']")

    def test_iterating(self):
        self.assertEqual(sameness(list(self.book)), "['b', 'a', 'longname']")
        self.assertEqual([name for name in self.book], ["b", "a", "longname"])
        self.assertEqual([one + other for one in self.book for other in self.book],
                         ["bb", "ba", "blongname", "ab", "aa", "alongname", "longnameb", "longnamea",
                          "longnamelongname"])
        first, *others = self.book
        self.assertEqual([first, others], ["b", ["a", "longname"]])

    def test_keep(self):
        self.assertEqual(sameness([self.book.keep(name) for name in self.book]), "[2, 1, 6]")
        self.assertEqual(self.book.keep(name="b"), 2)

    def test_calls(self):
        self.assertEqual(kinds(self.book.calls("b")), kinds([{"a": 1, "longname": 3}, {"longname": 6}]))
        self.assertEqual(sameness(self.book.calls("a")), "[]")
        self.assertEqual(kinds(self.book.calls(name="longname")), kinds([{"b": 5}]))

    def test_call(self):
        self.assertEqual(kinds(self.book.call("b")), kinds({"a": 1, "longname": 3}))
        self.assertEqual(kinds(self.book.call("b", 0)), kinds({"a": 1, "longname": 3}))
        self.assertEqual(kinds(self.book.call("b", 1)), kinds({"longname": 6}))
        self.assertEqual(kinds(self.book.call(at=1, name="b")), kinds({"longname": 6}))
        self.assertEqual(kinds(self.book.call("longname", at=0)), kinds({"b": 5}))

    def test_keepers(self):
        self.assertEqual(kinds(self.book.keepers()), kinds(keepers()))
        self.assertEqual(kinds(Book(("a", 3, ())).keepers()), kinds([("a", 3, [])]))

    def test_kept_by_all(self):
        self.assertEqual(sameness(self.book.kept_by_all()), "9")
        self.assertEqual(Book(("a", 3, [])).kept_by_all(), 3)
        self.assertEqual(Book(*[(name, 6, []) for name in "abcdefg"]).kept_by_all(), 42)

    def test_len_and_truth(self):
        self.assertEqual(sameness(len(self.book)), "3")
        self.assertIs(bool(self.book), True)
        self.assertEqual(len(Book(("a", 3, []))), 1)
        self.assertIs(bool(Book(("a", 3, []))), True)
        self.assertEqual(len(Book(*[(name, 1, []) for name in "abcdefg"])), 7)

    def test_within(self):
        for name in ("a", "b", "longname"):
            self.assertIs(name in self.book, True)
            self.assertIs(name not in self.book, False)
        for value in NO_KEEPERS:
            self.assertIs(value in self.book, False, value)
            self.assertIs(value not in self.book, True, value)

    def test_repr(self):
        self.assertEqual(repr(self.book), "Book(3 keepers)")
        self.assertEqual(str(Book(("a", 3, []))), "Book(1 keepers)")
        self.assertEqual(f"{Book(*[(name, 1, []) for name in 'abcdefg'])}", "Book(7 keepers)")

    def test_class_values(self):
        self.assertEqual(sameness([Book.MOST, Book.MOST_CALLS]), "[7, 20]")
        self.assertEqual(sameness([self.book.MOST, self.book.MOST_CALLS]), "[7, 20]")

    def test_random_books(self):
        dice = luck(1)
        for many in range(1, 8):
            for _ in range(10):
                rows = lucky_keepers(dice, many, 20)
                book = Book(*rows)
                self.assertEqual(kinds(book.keepers()), kinds(rows))
                self.assertEqual(book.names(), [name for name, _, _ in rows])
                self.assertEqual(book.kept_by_all(), sum(keep for _, keep, _ in rows))
                for name, keep, calls in rows:
                    self.assertEqual(book.keep(name), keep)
                    self.assertEqual(kinds(book.calls(name)), kinds(calls))
                    self.assertEqual(kinds([book.call(name, at) for at in range(len(calls))]), kinds(calls))


class Asked(unittest.TestCase):
    """What is asked of a book for names and calls that it does not have."""

    def setUp(self):
        self.book = Book(*keepers())

    def test_unknown_names(self):
        for value in NO_KEEPERS:
            for ask in (self.book.keep, self.book.calls, self.book.call):
                self.assertEqual(kinds(raised(self, UnknownName, ask, value).name), kinds(value))

    def test_unknown_calls(self):
        for value in (None, True, False, -1, -2, 2, 3, 20, 10 ** 30, -10 ** 30, "", "0", "a", (), (0,), [], [0], {},
                      {0: 1}, [[(None, {"a": [1]})]]):
            self.assertEqual(kinds(raised(self, UnknownCall, self.book.call, "b", value).at), kinds(value))

    def test_calls_of_steady_keepers(self):
        for value in (0, 1, -1, None, False):
            self.assertEqual(kinds(raised(self, UnknownCall, self.book.call, "a", value).at), kinds(value))
        self.assertEqual(kinds(raised(self, UnknownCall, self.book.call, "a").at), "0")

    def test_the_index_behind_the_last_one(self):
        self.assertEqual(raised(self, UnknownCall, self.book.call, "longname", 1).at, 1)

    def test_name_ahead_of_call(self):
        self.assertEqual(raised(self, UnknownName, self.book.call, "c", "x").name, "c")
        self.assertEqual(kinds(raised(self, UnknownName, self.book.call, ["b"], -1).name), kinds(["b"]))


class Copies(unittest.TestCase):
    def test_what_is_passed_stays(self):
        rows = keepers()
        Book(*rows)
        self.assertEqual(kinds(rows), kinds(keepers()))

    def test_changes_of_what_was_passed(self):
        rows = keepers()
        book = Book(*rows)
        rows[0][2][0]["a"] = 6
        rows[0][2][0]["c"] = 6
        del rows[0][2][1]
        rows[1][2].append({"b": 1})
        rows[2][2][0].clear()
        rows.pop()
        self.assertEqual(kinds(book.keepers()), kinds(keepers()))
        self.assertEqual(kinds([book.calls(name) for name in book]), kinds([calls for _, _, calls in keepers()]))
        self.assertEqual(book.text(), Book(*keepers()).text())

    def test_changes_of_calls_that_were_passed_as_a_tuple(self):
        call = {"a": 1}
        book = Book(("a", 1, ()), ("b", 2, (call,)))
        call["a"] = 9
        self.assertEqual(kinds(book.keepers()), kinds([("a", 1, []), ("b", 2, [{"a": 1}])]))

    def test_changes_of_one_call_that_was_passed_twice(self):
        call = {"a": 1}
        book = Book(("a", 1, ()), ("b", 2, [call, call]))
        book.call("b", 0)["a"] = 5
        book.calls("b")[0]["a"] = 5
        self.assertEqual(book.calls("b"), [{"a": 1}, {"a": 1}])

    def test_changes_of_what_was_returned(self):
        book = Book(*keepers())
        book.names().append("c")
        book.calls("b").append({"a": 6})
        book.calls("b")[0]["a"] = 6
        book.call("b")["a"] = 6
        book.call("b").clear()
        book.keepers().clear()
        book.keepers()[0][2].clear()
        book.keepers()[0][2][0]["a"] = 6
        self.assertEqual(kinds(book.keepers()), kinds(keepers()))
        self.assertEqual(kinds(book.calls("b")), kinds(keepers()[0][2]))
        self.assertEqual(kinds(book.call("b")), kinds(keepers()[0][2][0]))
        self.assertEqual(book.names(), ["b", "a", "longname"])
        self.assertEqual(book, Book(*keepers()))

    def test_what_was_returned_is_new(self):
        book = Book(*keepers())
        self.assertIsNot(book.names(), book.names())
        self.assertIsNot(book.calls("a"), book.calls("a"))
        self.assertIsNot(book.call("b"), book.call("b"))
        self.assertIsNot(book.keepers(), book.keepers())

    def test_books_made_of_a_book_have_copies(self):
        book = Book(*keepers())
        call = {"b": 1}
        others = [book.with_keeper("c", 1, call), book.with_call("a", call), book | Book(("c", 1, [])), book * 1,
                  book.with_keep("b", 2), book.renamed("a", "c"), book.without_call("b", 1)]
        texts = [other.text() for other in others]
        call["b"] = 6
        for other in others:
            for name in other:
                for told in other.calls(name):
                    told.clear()
        self.assertEqual([other.text() for other in others], texts)
        self.assertEqual(kinds(book.keepers()), kinds(keepers()))


if __name__ == "__main__":
    unittest.main()
