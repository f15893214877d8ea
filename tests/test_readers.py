import unittest

from mendworth.books import Book
from mendworth.errors import InvalidFalls, InvalidSize
from mendworth.worths import readers, worths
from tests.helper import full_keepers, kinds, lots_in_order, luck, lucky_keepers, raised, sameness

ALIKE = Book.alike("a", "b", "c", "d", keep=2, helpers=3)
NO_SIZES = (None, True, False, 0, -1, -10 ** 30, "", "1", "a", (), (1,), [], [1], {}, {1: 1}, [[(None, {"a": [1]})]])
NO_FALLS = (True, False, -1, 10, 10 ** 30, "", "0", (), (1,), [], [None], {}, {0: 1}, [[(None, {"a": [1]})]])


def first(*values, **named):
    return next(readers(*values, **named))


def least_lots(names, table, size):
    """The lots with enough within which, of all lots, none is enough."""
    enough = [lot for lot in lots_in_order(names) if table[lot] >= size]
    return [lot for lot in enough if not any(set(other) < set(lot) for other in enough)]


class Told(unittest.TestCase):
    def test_as_told(self):
        self.assertEqual(list(readers(ALIKE, 5))[0], ("a", "b", "c"))
        self.assertEqual(sameness(list(readers(ALIKE, 4))),
                         sameness([("a", "b"), ("a", "c"), ("a", "d"), ("b", "c"), ("b", "d"), ("c", "d")]))
        self.assertEqual(list(readers(ALIKE, 1)), [("a",), ("b",), ("c",), ("d",)])
        self.assertEqual(list(readers(ALIKE, 6)), [])
        self.assertEqual(list(readers(ALIKE, 6, falls=0))[-1], ("b", "c", "d"))

    def test_by_positions_and_not_by_names(self):
        book = Book(("c", 1, []), ("a", 2, []), ("d", 1, []), ("b", 2, []))
        self.assertEqual(list(readers(book, 2)), [("a",), ("b",), ("c", "d")])
        self.assertEqual(list(readers(book, 3)), [("c", "a"), ("c", "b"), ("a", "d"), ("a", "b"), ("d", "b")])
        self.assertEqual(list(readers(book, 1)), [("c",), ("a",), ("d",), ("b",)])
        self.assertEqual(list(readers(book, 5)), [("c", "a", "b"), ("a", "d", "b")])
        self.assertEqual(list(readers(book, 6)), [("c", "a", "d", "b")])

    def test_shorter_ones_first(self):
        book = Book(("a", 1, []), ("b", 1, []), ("c", 1, []), ("d", 3, []))
        self.assertEqual(list(readers(book, 3)), [("d",), ("a", "b", "c")])
        self.assertEqual(list(readers(book, 4)), [("a", "d"), ("b", "d"), ("c", "d")])

    def test_against_the_worths(self):
        dice = luck(1)
        for many in range(1, 8):
            for most_calls in (0, 2, 5):
                book = Book(*lucky_keepers(dice, many, most_calls))
                for falls in (None, 0, 1, 3, 9):
                    table = worths(book, falls=falls)
                    for size in range(1, max(table.values()) + 3):
                        self.assertEqual(kinds(list(readers(book, size, falls=falls))),
                                         kinds(least_lots(book.names(), table, size)))

    def test_the_greatest_books(self):
        dice = luck(2)
        for most_letters in (2, 6):
            book = Book(*full_keepers(dice, most_letters))
            for falls in (None, 1, 2):
                table = worths(book, falls=falls)
                for size in range(1, max(table.values()) + 2):
                    self.assertEqual(list(readers(book, size, falls=falls)), least_lots(book.names(), table, size))

    def test_sizes_beyond_all_worths(self):
        for size in (6, 7, 60, 10 ** 30, 10 ** 40):
            self.assertEqual(list(readers(ALIKE, size)), [])
        self.assertEqual(list(readers(Book(("a", 6, [])), 6)), [("a",)])
        self.assertEqual(list(readers(Book(("a", 6, [])), 7)), [])

    def test_by_name(self):
        self.assertEqual(list(readers(size=5, book=ALIKE)), list(readers(ALIKE, 5)))
        with self.assertRaises(TypeError):
            readers(ALIKE, 5, None)


class Generators(unittest.TestCase):
    def test_one_at_a_time(self):
        rows = readers(ALIKE, 4)
        self.assertIs(iter(rows), rows)
        self.assertEqual([next(rows), next(rows)], [("a", "b"), ("a", "c")])
        self.assertEqual(len(list(rows)), 4)
        self.assertEqual(list(rows), [])

    def test_two_side_by_side(self):
        one, other = readers(ALIKE, 4), readers(ALIKE, 5)
        third = readers(ALIKE, 4)
        told = [(next(one), next(other), next(third)) for _ in range(4)]
        self.assertEqual([row[0] for row in told], list(readers(ALIKE, 4))[:4])
        self.assertEqual([row[1] for row in told], list(readers(ALIKE, 5)))
        self.assertEqual([row[2] for row in told], [row[0] for row in told])
        self.assertEqual([len(list(one)), len(list(other)), len(list(third))], [2, 0, 2])

    def test_errors_when_the_first_item_is_asked_for(self):
        for size, named in ((0, {}), (None, {}), (1, {"falls": 10}), (True, {"falls": "x"})):
            rows = readers(ALIKE, size, **named)
            with self.assertRaises((InvalidSize, InvalidFalls)):
                next(rows)
            self.assertEqual(list(rows), [])


class Refused(unittest.TestCase):
    def test_sizes(self):
        for value in NO_SIZES:
            self.assertEqual(kinds(raised(self, InvalidSize, first, ALIKE, value).given), kinds(value))
            for falls in (0, 10, True, "x"):
                self.assertEqual(kinds(raised(self, InvalidSize, first, ALIKE, value, falls=falls).given), kinds(value))

    def test_falls(self):
        for value in NO_FALLS:
            for size in (1, 5, 100):
                self.assertEqual(kinds(raised(self, InvalidFalls, first, ALIKE, size, falls=value).given), kinds(value))


if __name__ == "__main__":
    unittest.main()
