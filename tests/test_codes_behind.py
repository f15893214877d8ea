import unittest

from mendworth.books import Book
from mendworth.codes import Code, fresh
from mendworth.errors import InvalidFall, Unreadable, Weak
from mendworth.files import recovered, stored
from mendworth.mends import codes_behind, mend
from mendworth.papers import bound
from mendworth.worths import readers, worth
from tests.helper import (GREATEST, LEAST, full_keepers, kinds, letters_of, lots_in_order, luck, lucky_falls,
                          lucky_keepers, plain_weak_lots, raised, rank_of, rows_in)

BOOK = Book(("c", 2, [{"b": 2, "a": 1}, {"b": 1}]), ("a", 1, [{"b": 1}]), ("b", 3, []))
CODE = fresh(BOOK, LEAST, 4)
GOOD = (("c", 0), ("a", 0), ("c", 1), ("c", 0), ("a", 0))

# Each is no pair or no fall of the book.
NO_FALLS = (None, True, False, 0, 1, "", "c", "c0", (), ("c",), ("c", 0, 0), ["c", 0], [("c", 0)], (("c", 0),), {},
            {"c": 0}, {"c": 0, "a": 0}, ("c", None), ("c", True), ("c", False), ("c", -1), ("c", 2), ("a", 1),
            ("c", 10 ** 30), ("c", "0"), ("c", (0,)), ("c", [0]), ("c", {}), ("b", 0), ("d", 0), ("", 0), ("C", 0),
            (None, 0), (True, 0), (0, 0), (0, "c"), (("c",), 0), (["c"], 0), ({}, 0), [[(None, {"a": [1]})]])


class Codes(unittest.TestCase):
    def check(self, code, *falls):
        """Whether each code is behind a mend of the one ahead, and sound; they are returned."""
        codes = list(codes_behind(code, *falls))
        self.assertEqual(len(codes), len(falls))
        before = code
        for (name, at), after in zip(falls, codes):
            self.assertEqual([after.book, after.modulus, after.size], [code.book, code.modulus, code.size])
            self.assertEqual(after, mend(before, name, at).after())
            self.assertEqual(plain_weak_lots(after), [])
            before = after
        return codes

    def test_named_book(self):
        for size in range(1, 7):
            self.check(fresh(BOOK, LEAST, size), *GOOD)

    def test_a_long_history(self):
        dice = luck(81)
        book = Book.alike("a", "b", "c", "d", keep=2, helpers=3)
        self.check(fresh(book, LEAST, 5), *lucky_falls(dice, book, 60))

    def test_the_same_keeper_again_and_again(self):
        book = Book.alike("a", "b", "c", keep=2, helpers=1)
        self.check(fresh(book, GREATEST, 3), *[("b", at) for at in (0, 0, 0, 1, 1, 0, 1, 0, 1, 0, 0, 1) * 2])

    def test_two_in_turn(self):
        book = Book(("a", 2, [{"b": 2}, {"c": 2}]), ("b", 2, [{"a": 2}, {"c": 1}]), ("c", 3, []))
        for size in (1, 2, 3):
            self.check(fresh(book, LEAST, size), *[("ab"[at // 2 & 1], at & 1) for at in range(24)])

    def test_lucky_books(self):
        dice = luck(82)
        for many in (2, 3, 4, 5):
            for _ in range(3):
                book = Book(*lucky_keepers(dice, many, 2, 3))
                code = fresh(book, dice.choice((LEAST, 10009, GREATEST)), dice.randint(1, book.kept_by_all()))
                self.check(code, *lucky_falls(dice, book, 6))

    def test_full_books(self):
        dice = luck(83)
        book = Book(*full_keepers(dice, 3))
        self.check(fresh(book, LEAST, worth(book, *book) + 1), *lucky_falls(dice, book, 6))

    def test_no_falls(self):
        self.assertEqual(list(codes_behind(CODE)), [])

    def test_by_name(self):
        self.assertEqual(list(codes_behind(code=CODE)), [])

    def test_the_first_code_stays(self):
        before = kinds(CODE.table())
        codes = list(codes_behind(CODE, *GOOD))
        self.assertEqual(kinds(CODE.table()), before)
        self.assertEqual(codes, list(codes_behind(CODE, *GOOD)))


class Refused(unittest.TestCase):
    def test_each_place(self):
        for value in NO_FALLS:
            for at in range(4):
                falls = [*GOOD[:at], value, *GOOD[at:]]
                found = []
                error = raised(self, InvalidFall, self.collect, found, CODE, *falls)
                self.assertEqual(kinds(error.at), str(at))
                self.assertEqual(len(found), at)

    def collect(self, found, code, *falls):
        for item in codes_behind(code, *falls):
            found.append(item)

    def test_what_is_yielded_ahead(self):
        found = []
        error = raised(self, InvalidFall, self.collect, found, CODE, *GOOD, ("b", 0), None)
        self.assertEqual(error.at, 5)
        self.assertEqual(found, list(codes_behind(CODE, *GOOD)))

    def test_only_when_it_is_asked_for(self):
        codes = codes_behind(CODE, ("c", 0), ("c", 2), ("c", 3))
        self.assertEqual(next(codes), mend(CODE, "c").after())
        self.assertEqual(raised(self, InvalidFall, next, codes).at, 1)
        codes = codes_behind(CODE, None)
        self.assertEqual(raised(self, InvalidFall, next, codes).at, 0)

    def test_weak(self):
        table = CODE.table()
        table["a"] = [(0, 0, 0, 0)]
        code = Code(BOOK, LEAST, 4, table)
        for falls in ([("c", 0)], [("a", 0), None], [("c", 1), ("a", 0)]):
            codes = codes_behind(code, *falls)
            self.assertEqual(kinds(raised(self, Weak, next, codes).lot), kinds(("a",)))
        self.assertEqual(raised(self, InvalidFall, list, codes_behind(code, ("b", 0))).at, 0)


class WhatNoCodeOutlives(unittest.TestCase):
    """A history that a bound tells leaves a lot no more letters than its worth, and a sound code leaves it these."""

    def behind(self, book, modulus, size, lot):
        falls = bound(book, *lot).falls()
        code = fresh(book, modulus, size)
        return [code, *codes_behind(code, *falls)][-1]

    def check(self, book, modulus, lot):
        dice = luck(len(lot))
        most = worth(book, *lot)
        if most > 0:
            code = self.behind(book, modulus, most, lot)
            file = [dice.randrange(modulus) for _ in range(most)]
            self.assertEqual(kinds(recovered(code, stored(code, file), *lot)), kinds(file))
            self.assertEqual(recovered(code, letters_of(code, file), *lot), file)
        if most < book.kept_by_all():
            code = self.behind(book, modulus, most + 1, lot)
            file = [dice.randrange(modulus) for _ in range(most + 1)]
            self.assertEqual(rank_of(modulus, rows_in(code, lot)), most)
            self.assertEqual(kinds(raised(self, Unreadable, recovered, code, stored(code, file), *lot).lot),
                             kinds(lot))

    def test_named_books(self):
        chain = Book(("a", 1, [{"b": 1}]), ("b", 3, [{"c": 1}]), ("c", 3, []))
        for book in (chain, BOOK, Book.alike("a", "b", "c", "d", keep=2, helpers=3)):
            for lot in lots_in_order(book.names()):
                self.check(book, LEAST, lot)

    def test_lucky_books(self):
        dice = luck(91)
        for many in (1, 2, 3, 4, 5):
            for _ in range(4):
                book = Book(*lucky_keepers(dice, many, 3, 3))
                for lot in dice.sample(lots_in_order(book.names()), min(4, 2 ** many)):
                    self.check(book, dice.choice((LEAST, GREATEST)), lot)

    def test_full_books(self):
        dice = luck(92)
        book = Book(*full_keepers(dice, 2))
        self.check(book, LEAST, tuple(book))
        self.check(book, LEAST, ("g", "e", "a"))

    def test_the_readers_of_a_size_read_behind_every_history(self):
        dice = luck(93)
        book = Book.alike("a", "b", "c", "d", "e", keep=2, helpers=3)
        for size in (2, 4, 5):
            code = fresh(book, LEAST, size)
            file = [dice.randrange(LEAST) for _ in range(size)]
            for behind in codes_behind(code, *lucky_falls(dice, book, 12)):
                for lot in readers(book, size):
                    self.assertEqual(recovered(behind, letters_of(behind, file), *lot), file)


if __name__ == "__main__":
    unittest.main()
