import unittest
from itertools import permutations

from mendworth.books import Book
from mendworth.errors import DuplicateName, InvalidCount, InvalidFalls, UnknownName
from mendworth.worths import along, longest_file, worth, worths
from tests.helper import (NO_NAMES, full_keepers, kinds, lots_in_order, luck, lucky_keepers, plain_worths, raised,
                          sameness)

ALIKE = Book.alike("a", "b", "c", "d", keep=2, helpers=3)
CHAIN = Book(("a", 1, [{"b": 1}]), ("b", 3, [{"c": 1}]), ("c", 3, []))
NO_KEEPERS = (*NO_NAMES, "e", "aa", "abcd")
NO_FALLS = (True, False, -1, 10, 11, -10 ** 30, 10 ** 30, "", "0", "1", "None", "a", (), (1,), [], [None], {}, {0: 1},
            [[(None, {"a": [1]})]])
ALL_FALLS = (None, 0, 1, 2, 3, 4, 5, 6, 7, 8, 9)


class Worth(unittest.TestCase):
    def test_as_told(self):
        self.assertEqual([worth(ALIKE, "a"), worth(ALIKE, "a", "b"), worth(ALIKE, "a", "b", "c")], [2, 4, 5])
        self.assertEqual(worth(ALIKE, "a", "b", "c", falls=0), 6)
        self.assertEqual([worth(CHAIN, "a"), worth(CHAIN, "b"), worth(CHAIN, "a", "b"),
                          worth(CHAIN, "a", "b", falls=1), worth(CHAIN, "b", "c")], [1, 1, 1, 2, 3])

    def test_greater_lots_that_are_worth_less(self):
        # Behind the fall of the only helper the others are made of nothing else.
        book = Book(("a", 6, [{"b": 1}]), ("b", 6, [{"c": 1}]), ("c", 6, [{"d": 1}]), ("d", 1, []))
        self.assertEqual([worth(book, "a"), worth(book, "a", "b"), worth(book, "a", "b", "c")], [1, 1, 1])
        self.assertEqual([worth(book, "a", "b", "c", falls=most) for most in range(5)], [18, 12, 6, 1, 1])
        self.assertEqual([worth(book, "b", "c", falls=most) for most in range(5)], [12, 6, 1, 1, 1])
        self.assertEqual([worth(book, "d", falls=most) for most in range(3)], [1, 1, 1])

    def test_the_empty_lot(self):
        dice = luck(1)
        for many in range(1, 8):
            book = Book(*lucky_keepers(dice, many, 20))
            for falls in ALL_FALLS:
                self.assertEqual(sameness(worth(book, falls=falls)), "0")

    def test_all_keepers(self):
        dice = luck(2)
        for many in range(1, 7):
            keepers = lucky_keepers(dice, many, 5)
            book = Book(*keepers)
            self.assertEqual(worth(book, *book), min(along(book, *order) for order in permutations(book.names())))
            self.assertEqual(worth(book, *book, falls=0), book.kept_by_all())

    def test_one_keeper(self):
        book = Book(("a", 5, []))
        self.assertEqual([worth(book, "a", falls=falls) for falls in ALL_FALLS], [5] * 11)
        self.assertEqual(worths(book), {(): 0, ("a",): 5})

    def test_any_order(self):
        for order in permutations(["a", "b", "c"]):
            self.assertEqual(worth(ALIKE, *order), 5)
            self.assertEqual(worth(CHAIN, *order, falls=1), 4)

    def test_by_name(self):
        self.assertEqual(worth(book=CHAIN), 0)
        self.assertEqual(worths(book=CHAIN, falls=0)["a", "b"], 4)

    def check(self, keepers, falls):
        book = Book(*keepers)
        wanted = plain_worths(keepers, falls)
        self.assertEqual(worths(book, falls=falls), wanted)
        for lot in list(wanted)[::1 + len(book) // 3]:
            self.assertEqual(sameness(worth(book, *lot[::-1], falls=falls)), sameness(wanted[lot]))

    def test_small_books_against_the_definition(self):
        dice = luck(3)
        for many in range(1, 5):
            for most_calls in (1, 2, 5):
                for most_letters in (1, 2, 6):
                    keepers = lucky_keepers(dice, many, most_calls, most_letters)
                    for falls in ALL_FALLS:
                        self.check(keepers, falls)

    def test_five_and_six_keepers_against_the_definition(self):
        dice = luck(4)
        for many in (5, 5, 5, 6, 6, 6):
            for most_letters in (2, 6):
                keepers = lucky_keepers(dice, many, 3, most_letters)
                for falls in (None, 0, 1, 2, 3, many - 1, many, 9):
                    self.check(keepers, falls)

    def test_the_greatest_books_against_the_definition(self):
        dice = luck(5)
        for falls in (None, 1, 3, 6):
            self.check(full_keepers(dice), falls)
            self.check(lucky_keepers(dice, 7, 2), falls)

    def test_letters_along_orders_of_greater_lots(self):
        dice = luck(6)
        keepers = lucky_keepers(dice, 5, 3)
        book = Book(*keepers)
        orders = [order for many in range(6) for order in permutations(book.names(), many)]
        for lot in lots_in_order(book.names()):
            self.assertEqual(worth(book, *lot),
                             min(along(book, *order) for order in orders if set(order) >= set(lot)))

    def test_lots_in_which_those_that_fall_come_last(self):
        # With one fall only the last one may bring less than it keeps.
        book = Book(("a", 4, [{"b": 1}]), ("b", 4, [{"a": 1}]), ("c", 4, [{"a": 2, "b": 2}]))
        self.assertEqual(worth(book, "a", "b", "c", falls=1), 8)
        # With two a falls ahead of c, with three b between them.
        self.assertEqual([worth(book, "c", falls=falls) for falls in (0, 1, 2, 3, None)], [4, 4, 3, 1, 1])


class Worths(unittest.TestCase):
    def test_as_told(self):
        self.assertEqual(kinds(worths(CHAIN)), kinds({(): 0, ("a",): 1, ("b",): 1, ("c",): 3, ("a", "b"): 1,
                                                      ("a", "c"): 3, ("b", "c"): 3, ("a", "b", "c"): 3}))
        self.assertEqual(kinds(worths(CHAIN, falls=0)), kinds({(): 0, ("a",): 1, ("b",): 3, ("c",): 3, ("a", "b"): 4,
                                                               ("a", "c"): 4, ("b", "c"): 6, ("a", "b", "c"): 7}))

    def test_keys_in_the_order_of_the_book(self):
        book = Book(("c", 1, []), ("a", 2, []), ("b", 3, []))
        self.assertEqual(kinds(worths(book)), kinds({(): 0, ("c",): 1, ("a",): 2, ("b",): 3, ("c", "a"): 3,
                                                     ("c", "b"): 4, ("a", "b"): 5, ("c", "a", "b"): 6}))

    def test_all_lots(self):
        dice = luck(7)
        for many in range(1, 8):
            book = Book(*lucky_keepers(dice, many, 20))
            for falls in ALL_FALLS[::3]:
                table = worths(book, falls=falls)
                self.assertIs(table.__class__, dict)
                self.assertEqual(kinds(sorted(table)), kinds(sorted(lots_in_order(book.names()))))
                self.assertTrue(all(table[lot].__class__ is int for lot in table))

    def test_a_new_dict_each_time(self):
        table = worths(CHAIN)
        table.clear()
        table[()] = 9
        self.assertEqual(len(worths(CHAIN)), 8)
        self.assertEqual(worths(CHAIN)[()], 0)
        self.assertEqual(worth(CHAIN, "c"), 3)
        self.assertIsNot(worths(CHAIN), worths(CHAIN))

    def test_falls_only_by_keyword(self):
        with self.assertRaises(TypeError):
            worths(CHAIN, 1)


class Falls(unittest.TestCase):
    def test_no_falls(self):
        dice = luck(8)
        for many in range(1, 8):
            book = Book(*lucky_keepers(dice, many, 20))
            self.assertEqual(worths(book, falls=0),
                             {lot: sum(map(book.keep, lot)) for lot in lots_in_order(book.names())})

    def test_as_many_as_keepers_and_nine(self):
        dice = luck(9)
        for many in range(1, 8):
            book = Book(*lucky_keepers(dice, many, 20))
            for falls in range(many, 10):
                self.assertEqual(worths(book, falls=falls), worths(book))

    def test_seven_falls_that_count(self):
        names = "abcdefg"
        book = Book(*[(name, 6, [{names[at - 1]: 1}]) for at, name in enumerate(names)])
        self.assertEqual([worth(book, *names, falls=falls) for falls in ALL_FALLS],
                         [1, 42, 36, 30, 24, 18, 12, 6, 1, 1, 1])

    def test_one_more_at_a_time(self):
        dice = luck(10)
        book = Book(*lucky_keepers(dice, 6, 4))
        tables = [worths(book, falls=falls) for falls in range(10)]
        for lot in tables[0]:
            row = [table[lot] for table in tables]
            self.assertEqual(row, sorted(row, reverse=True))

    def test_other_values(self):
        for value in NO_FALLS:
            for lot in ((), ("a",), ("c", "b"), ("a", "b", "c")):
                self.assertEqual(kinds(raised(self, InvalidFalls, worth, CHAIN, *lot, falls=value).given), kinds(value))
            self.assertEqual(kinds(raised(self, InvalidFalls, worths, CHAIN, falls=value).given), kinds(value))

    def test_behind_the_errors_of_the_lot(self):
        for value in NO_KEEPERS:
            for lot in ((value,), ("a", value), (value, "a"), ("a", "a", value), (value, "a", "a")):
                for falls in (None, 3, 10, True, "x"):
                    self.assertEqual(kinds(raised(self, UnknownName, worth, CHAIN, *lot, falls=falls).name),
                                     kinds(value))
        for falls in (None, 3, 10, True, "x"):
            self.assertEqual(raised(self, DuplicateName, worth, CHAIN, "a", "b", "b", "a", falls=falls).name, "b")


class LongestFile(unittest.TestCase):
    def test_as_told(self):
        self.assertEqual(longest_file(ALIKE, ["a"]), 2)
        self.assertEqual(longest_file(ALIKE, ["a", "b", "c"], ["b", "a"]), 4)
        self.assertEqual(longest_file(ALIKE, ["b", "a"], ["a", "b", "c"]), 4)
        self.assertEqual(longest_file(ALIKE, ["a", "b", "c"], falls=0), 6)
        self.assertEqual(longest_file(CHAIN, ["a", "c"], ["b", "c"], ["c"]), 3)
        self.assertEqual(longest_file(CHAIN, ["a", "b"], ["c"], falls=1), 2)

    def test_lots_of_all_kinds(self):
        self.assertEqual(sameness(longest_file(ALIKE, [])), "0")
        self.assertEqual(longest_file(ALIKE, ("a", "b"), ["c", "a", "b"]), 4)
        self.assertEqual(longest_file(ALIKE, ["a", "b"], ["a", "b"]), 4)
        self.assertEqual(longest_file(ALIKE, ["a", "b"], [], falls=0), 0)

    def test_against_worths(self):
        dice = luck(11)
        for many in (1, 3, 5, 7):
            book = Book(*lucky_keepers(dice, many, 4))
            for falls in (None, 0, 2):
                table = worths(book, falls=falls)
                for _ in range(5):
                    lots = dice.sample(sorted(table), dice.randint(1, min(4, len(table))))
                    self.assertEqual(longest_file(book, *[list(lot)[::-1] for lot in lots], falls=falls),
                                     min(table[lot] for lot in lots))

    def test_no_lots(self):
        for falls in (None, 2, 10, True, "x"):
            self.assertEqual(kinds(raised(self, InvalidCount, longest_file, CHAIN, falls=falls).given), "0")

    def test_wrong_lots(self):
        for value in NO_KEEPERS:
            for lot in ([value], ["a", value], [value, "a"], ["a", "a", value]):
                for lots in ((lot,), (["a"], lot), (["a", "b"], ["c"], lot, ["e"])):
                    self.assertEqual(kinds(raised(self, UnknownName, longest_file, CHAIN, *lots).name), kinds(value))
        for lots in ((["b", "a", "b"],), (["a"], ["b", "b"]), (["a"], ["b", "c", "b"], ["a", "a"])):
            self.assertEqual(raised(self, DuplicateName, longest_file, CHAIN, *lots).name, "b")

    def test_names_may_stand_in_several_lots(self):
        self.assertEqual(longest_file(CHAIN, ["a", "c"], ["c"], ["b", "c"]), 3)

    def test_falls_behind_the_first_lot(self):
        for value in NO_FALLS:
            for lots in ((["a"],), (["a"], ["e"]), (["a", "b"], ["a", "a"]), ([], ["e"])):
                error = raised(self, InvalidFalls, longest_file, CHAIN, *lots, falls=value)
                self.assertEqual(kinds(error.given), kinds(value))
            self.assertEqual(raised(self, UnknownName, longest_file, CHAIN, ["e"], ["a"], falls=value).name, "e")
            self.assertEqual(raised(self, DuplicateName, longest_file, CHAIN, ["a", "a"], falls=value).name, "a")

    def test_lots_stay_as_they_were(self):
        lots = [["c", "a"], ["b"]]
        longest_file(CHAIN, *lots)
        self.assertEqual(lots, [["c", "a"], ["b"]])


if __name__ == "__main__":
    unittest.main()
