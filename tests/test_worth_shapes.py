import unittest
from itertools import permutations

from mendworth.books import Book
from mendworth.worths import along, brought, readers, worth, worths
from tests.helper import lots_in_order, luck, lucky_keepers

FALLS = (None, 0, 1, 2, 3, 9)


def alike_worth(many, keep, helpers, letters, of, falls):
    """The worth of a lot in a book of keepers all alike: one that falls behind some others brings what is left."""
    brings = [min(keep, letters * max(0, helpers - ahead)) for ahead in range(many)]
    most = many if falls is None else falls
    return min(keep * (size - fallen) + sum(brings[size - fallen:size])
               for size in range(of, many + 1) for fallen in range(min(most, size) + 1))


def by_sets(table):
    return {frozenset(lot): number for lot, number in table.items()}


class Alike(unittest.TestCase):
    def test_all_shapes(self):
        for many in range(2, 8):
            for helpers in range(1, many):
                for keep, letters in ((1, 1), (2, 1), (3, 2), (6, 1), (4, 6), (6, 3)):
                    book = Book.alike(*"gfedcba"[:many], keep=keep, helpers=helpers, letters=letters)
                    for falls in FALLS if many < 6 else (None, 2):
                        wanted = [alike_worth(many, keep, helpers, letters, of, falls) for of in range(many + 1)]
                        self.assertEqual(worths(book, falls=falls),
                                         {lot: wanted[len(lot)] for lot in lots_in_order(book.names())})

    def test_known_numbers(self):
        book = Book.alike(*"abcd", keep=2, helpers=3)
        self.assertEqual([worth(book, *"abcd"[:many]) for many in range(5)], [0, 2, 4, 5, 5])
        book = Book.alike(*"abcde", keep=4, helpers=4)
        self.assertEqual([worth(book, *"abcde"[:many]) for many in range(6)], [0, 4, 7, 9, 10, 10])

    def test_readers_of_keepers_all_alike(self):
        book = Book.alike(*"abcde", keep=4, helpers=4)
        for size, many in ((1, 1), (4, 1), (5, 2), (7, 2), (8, 3), (9, 3), (10, 4)):
            self.assertEqual(list(readers(book, size)),
                             [lot for lot in lots_in_order(book.names()) if len(lot) == many])
        self.assertEqual(list(readers(book, 11)), [])


class SideBySide(unittest.TestCase):
    def books(self, seed):
        dice = luck(seed)
        for one, other in ((1, 1), (1, 3), (2, 2), (3, 2), (3, 4), (4, 3), (1, 6)):
            keepers = lucky_keepers(dice, one, 3)
            others = lucky_keepers(dice, other, 3)
            first = Book(*keepers)
            second = Book(*others)
            # Other names, so that no keeper of one is one of the other.
            for at, name in enumerate(second):
                second = second.renamed(name, "other" + "pqrstuv"[at])
            yield first, second

    def test_worths_add_up(self):
        for one, other in self.books(1):
            parts, others = by_sets(worths(one)), by_sets(worths(other))
            for lot, number in worths(one | other).items():
                self.assertEqual(number, parts[frozenset(lot) & set(one)] + others[frozenset(lot) & set(other)])

    def test_falls_are_shared(self):
        for one, other in self.books(2):
            for falls in range(4):
                parts = [by_sets(worths(one, falls=some)) for some in range(falls + 1)]
                others = [by_sets(worths(other, falls=some)) for some in range(falls + 1)]
                for lot, number in worths(one | other, falls=falls).items():
                    first, second = frozenset(lot) & set(one), frozenset(lot) & set(other)
                    self.assertEqual(number, min(parts[some][first] + others[falls - some][second]
                                                 for some in range(falls + 1)))

    def test_a_keeper_without_calls_that_nobody_asks(self):
        dice = luck(3)
        for many in range(1, 7):
            book = Book(*lucky_keepers(dice, many, 4))
            more = book.with_keeper("steady", 5)
            for falls in FALLS:
                table, greater = worths(book, falls=falls), worths(more, falls=falls)
                for lot, number in table.items():
                    self.assertEqual([greater[lot], greater[(*lot, "steady")]], [number, number + 5])


class Multiplied(unittest.TestCase):
    def test_worths_times_a_number(self):
        dice = luck(4)
        for many in range(1, 8):
            for times in (1, 2, 3):
                book = Book(*lucky_keepers(dice, many, 4, 6 // times))
                for falls in FALLS:
                    self.assertEqual(worths(book * times, falls=falls),
                                     {lot: times * number for lot, number in worths(book, falls=falls).items()})

    def test_what_is_brought(self):
        dice = luck(5)
        book = Book(*lucky_keepers(dice, 5, 4, 2))
        for order in permutations(book.names(), 3):
            self.assertEqual(along(book * 3, *order), 3 * along(book, *order))
            self.assertEqual(brought(book * 3, *order), 3 * brought(book, *order))


class Orders(unittest.TestCase):
    def test_keepers_in_another_order(self):
        dice = luck(6)
        for many in range(1, 8):
            keepers = lucky_keepers(dice, many, 4)
            turned = dice.sample(keepers, many)
            for falls in FALLS:
                self.assertEqual(by_sets(worths(Book(*keepers), falls=falls)),
                                 by_sets(worths(Book(*turned), falls=falls)))

    def test_calls_in_another_order(self):
        dice = luck(7)
        for many in range(1, 8):
            keepers = lucky_keepers(dice, many, 6)
            turned = [(name, keep, dice.sample(calls, len(calls))) for name, keep, calls in keepers]
            self.assertEqual(worths(Book(*keepers)), worths(Book(*turned)))

    def test_other_names(self):
        dice = luck(8)
        book = Book(*lucky_keepers(dice, 5, 4))
        name = book.names()[2]
        table = worths(book.renamed(name, "other"))
        for lot, number in worths(book).items():
            self.assertEqual(table[tuple("other" if one == name else one for one in lot)], number)


class More(unittest.TestCase):
    """A book with one thing more is worth no less, or no more, for each lot."""

    def compare(self, lesser, greater):
        for falls in (None, 1, 2):
            table, other = worths(lesser, falls=falls), worths(greater, falls=falls)
            self.assertTrue(all(table[lot] <= other[lot] for lot in table))

    def test_a_call_more(self):
        dice = luck(9)
        for many in range(2, 8):
            book = Book(*lucky_keepers(dice, many, 4))
            for name in book:
                helper = dice.choice([other for other in book if other != name])
                self.compare(book.with_call(name, {helper: dice.randint(1, 3)}), book)

    def test_a_call_twice(self):
        dice = luck(10)
        for many in range(2, 8):
            book = Book(*lucky_keepers(dice, many, 4))
            for name in book:
                for call in book.calls(name):
                    self.assertEqual(worths(book.with_call(name, call)), worths(book))

    def test_a_letter_more_that_is_kept(self):
        dice = luck(11)
        for many in range(1, 8):
            book = Book(*lucky_keepers(dice, many, 4, 5))
            for name in book:
                self.compare(book, book.with_keep(name, book.keep(name) + 1))

    def test_a_letter_more_that_is_sent(self):
        dice = luck(12)
        for many in range(2, 8):
            keepers = lucky_keepers(dice, many, 4, 5)
            for at, (name, keep, calls) in enumerate(keepers):
                for helper in calls[0] if calls else ():
                    more = [{**calls[0], helper: calls[0][helper] + 1}, *calls[1:]]
                    self.compare(Book(*keepers), Book(*keepers[:at], (name, keep, more), *keepers[at + 1:]))

    def test_a_letter_more_that_counts(self):
        book = Book(("a", 3, [{"b": 1, "c": 1}]), ("b", 2, []), ("c", 2, []))
        self.assertEqual(worth(book, "a"), 2)
        self.assertEqual(worth(book.without_call("a").with_call("a", {"b": 1, "c": 2}), "a"), 3)
        self.assertEqual(worth(book.with_keep("a", 4), "a"), 2)
        self.assertEqual(worth(book.with_call("a", {"c": 1}), "a"), 1)
        self.assertEqual(worth(book.without_call("a"), "a"), 3)

    def test_greater_lots(self):
        dice = luck(13)
        for many in range(1, 8):
            book = Book(*lucky_keepers(dice, many, 6))
            for falls in (None, 0, 2):
                table = worths(book, falls=falls)
                for lot in table:
                    for at in range(len(lot)):
                        self.assertLessEqual(table[lot[:at] + lot[at + 1:]], table[lot])

    def test_a_keeper_more_is_worth_at_most_what_it_brings(self):
        dice = luck(14)
        for many in range(1, 8):
            book = Book(*lucky_keepers(dice, many, 6))
            table = by_sets(worths(book))
            for lot in lots_in_order(book.names()):
                for name in set(book) - set(lot):
                    most = table[frozenset(lot)] + brought(book, name, *lot)
                    self.assertLessEqual(table[frozenset(lot) | {name}], most)


if __name__ == "__main__":
    unittest.main()
