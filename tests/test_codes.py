import unittest

from mendworth.books import Book
from mendworth.codes import Code, fresh
from mendworth.errors import DuplicateName, InvalidModulus, InvalidRows, InvalidSize, UnknownName
from mendworth.spaces import Space
from tests.helper import (GREATEST, LEAST, NO_MODULI, NO_NAMES, NO_NUMBERS, kinds, lots_in_order, luck, lucky_keepers,
                          lucky_rows, no_rows, raised, rank_of, rows_in)

BOOK = Book(("c", 2, [{"a": 1, "b": 2}]), ("a", 1, [{"b": 1}]), ("b", 3, []))


def rows_of_book():
    return {"b": [[1, 0, 0], (0, 1, 0), [0, 0, 10006]], "c": ([1, 2, 3], (4, 5, 6)), "a": [[7, 8, 9]]}


def rows_as_told():
    return {"c": [(1, 2, 3), (4, 5, 6)], "a": [(7, 8, 9)], "b": [(1, 0, 0), (0, 1, 0), (0, 0, 10006)]}


CODE = Code(BOOK, LEAST, 3, rows_of_book())


class Told(unittest.TestCase):
    def test_all(self):
        self.assertEqual(CODE.book, BOOK)
        self.assertEqual(kinds([CODE.modulus, CODE.size]), kinds([LEAST, 3]))
        self.assertEqual(kinds(CODE.table()), kinds(rows_as_told()))
        for name, rows in rows_as_told().items():
            self.assertEqual(kinds(CODE.vectors(name)), kinds(rows))
        self.assertEqual([repr(CODE), str(CODE)], ["Code(3 on 3)"] * 2)

    def test_repr(self):
        one = Book(("a", 6, []))
        self.assertEqual([repr(fresh(one, LEAST, size)) for size in (1, 6)], ["Code(1 on 1)", "Code(6 on 1)"])
        seven = Book.alike(*"abcdefg", keep=6, helpers=6)
        self.assertEqual(repr(fresh(seven, GREATEST, 42)), "Code(42 on 7)")

    def test_by_name(self):
        code = Code(rows=rows_of_book(), size=3, modulus=LEAST, book=BOOK)
        self.assertEqual(code, CODE)
        self.assertEqual(code.vectors(name="a"), [(7, 8, 9)])

    def test_unknown_names(self):
        for name in (*NO_NAMES, "d", "aa", "abc"):
            self.assertEqual(kinds(raised(self, UnknownName, CODE.vectors, name).name), kinds(name))

    def test_properties_are_not_assigned(self):
        for name in ("book", "modulus", "size"):
            with self.assertRaises(AttributeError):
                setattr(CODE, name, 1)

    def test_vectors_of_zeros(self):
        rows = {name: [(0, 0)] * BOOK.keep(name) for name in BOOK}
        self.assertEqual(kinds(Code(BOOK, GREATEST, 2, rows).table()), kinds(rows))


class Equality(unittest.TestCase):
    def test_equal(self):
        turned = {name: tuple(list(row) for row in rows) for name, rows in rows_as_told().items()}
        self.assertTrue(Code(Book.read(BOOK.text()), LEAST, 3, turned) == CODE)
        self.assertFalse(Code(BOOK, LEAST, 3, turned) != CODE)

    def test_other_books(self):
        for book in (BOOK.without_call("a"), BOOK.with_call("b", {"a": 1})):
            self.assertFalse(Code(book, LEAST, 3, rows_of_book()) == CODE)
            self.assertTrue(Code(book, LEAST, 3, rows_of_book()) != CODE)
        renamed = Code(BOOK.renamed("a", "d"), LEAST, 3, {**without(rows_of_book(), "a"), "d": [[7, 8, 9]]})
        self.assertFalse(renamed == CODE)
        turned = Book(*reversed(BOOK.keepers()))
        self.assertFalse(Code(turned, LEAST, 3, rows_of_book()) == CODE)

    def test_other_modulus(self):
        self.assertFalse(Code(BOOK, 10009, 3, rows_of_book()) == CODE)

    def test_other_vectors(self):
        for name, rows in rows_as_told().items():
            for at in range(len(rows)):
                for place in range(3):
                    row = list(rows[at])
                    row[place] = (row[place] + 1) % LEAST
                    other = {**rows_as_told(), name: [*rows[:at], row, *rows[at + 1:]]}
                    self.assertFalse(Code(BOOK, LEAST, 3, other) == CODE)
        self.assertFalse(Code(BOOK, LEAST, 3, {**rows_as_told(), "c": [(4, 5, 6), (1, 2, 3)]}) == CODE)

    def test_other_size(self):
        longer = {name: [(*row, 0) for row in rows] for name, rows in rows_as_told().items()}
        self.assertFalse(Code(BOOK, LEAST, 4, longer) == CODE)

    def test_nothing_else(self):
        for value in (None, True, False, 0, 3, "Code(3 on 3)", (), [], {}, CODE.table(), BOOK, Space(LEAST, 3)):
            self.assertFalse(CODE == value)
            self.assertTrue(CODE != value)


def without(rows, name):
    return {other: rows[other] for other in rows if other != name}


class Copies(unittest.TestCase):
    def test_what_is_passed_stays(self):
        rows = rows_of_book()
        code = Code(BOOK, LEAST, 3, rows)
        code.space("a", "b"), code.weak_lot(), code.table(), code.with_book(BOOK), repr(code)
        self.assertEqual(kinds(rows), kinds(rows_of_book()))

    def test_later_changes(self):
        rows = rows_of_book()
        code = Code(BOOK, LEAST, 3, rows)
        rows["b"][0][0] = 5
        rows["a"].append([1, 1, 1])
        rows["c"] = None
        rows["d"] = []
        self.assertEqual(kinds(code.table()), kinds(rows_as_told()))
        self.assertEqual(code.rank("a", "b", "c"), 3)

    def test_changes_of_what_was_returned(self):
        code = Code(BOOK, LEAST, 3, rows_of_book())
        code.vectors("a").append((1, 1, 1))
        code.vectors("c")[0] = None
        table = code.table()
        table["b"].pop()
        table["b"].append(None)
        del table["a"]
        table["d"] = 1
        self.assertEqual(kinds(code.table()), kinds(rows_as_told()))
        self.assertEqual(kinds(code.vectors("c")), kinds(rows_as_told()["c"]))
        self.assertEqual(code, CODE)

    def test_new_at_each_time(self):
        self.assertIsNot(CODE.vectors("a"), CODE.vectors("a"))
        self.assertIsNot(CODE.table(), CODE.table())
        self.assertIsNot(CODE.table()["a"], CODE.table()["a"])


class Refused(unittest.TestCase):
    def test_moduli(self):
        for modulus in NO_MODULI:
            self.assertEqual(kinds(raised(self, InvalidModulus, Code, BOOK, modulus, 3, rows_of_book()).given),
                             kinds(modulus))
            self.assertEqual(kinds(raised(self, InvalidModulus, fresh, BOOK, modulus, 3).given), kinds(modulus))
            self.assertEqual(kinds(raised(self, InvalidModulus, Code, BOOK, modulus, 0, {"d": 1}).given),
                             kinds(modulus))
            self.assertEqual(kinds(raised(self, InvalidModulus, fresh, BOOK, modulus, 0).given), kinds(modulus))

    def test_sizes(self):
        for size in (*NO_NUMBERS, 0, -1, 7, 42, 60, 61, 10 ** 30, -10 ** 30):
            self.assertEqual(kinds(raised(self, InvalidSize, Code, BOOK, LEAST, size, rows_of_book()).given),
                             kinds(size))
            self.assertEqual(kinds(raised(self, InvalidSize, fresh, BOOK, LEAST, size).given), kinds(size))
            self.assertEqual(kinds(raised(self, InvalidSize, Code, BOOK, LEAST, size, {"d": 1}).given), kinds(size))

    def test_greatest_size(self):
        rows = {name: [(1,) * 6] * BOOK.keep(name) for name in BOOK}
        self.assertEqual(Code(BOOK, LEAST, 6, rows).size, 6)
        rows = {name: [(1,) * 7] * BOOK.keep(name) for name in BOOK}
        self.assertEqual(raised(self, InvalidSize, Code, BOOK, LEAST, 7, rows).given, 7)

    def test_keys(self):
        for keys, first in ((["d"], "d"), (["e", "d"], "d"), (["d", "e"], "d"), (["ca", "aa"], "aa"), ([""], ""),
                            (["z", "A"], "A"), (["a ", "b "], "a "), (["keeper"], "keeper"), (["c\n", "bb"], "bb")):
            rows = {**{key: [[1, 2, 3]] for key in keys}, **rows_of_book()}
            self.assertEqual(raised(self, UnknownName, Code, BOOK, LEAST, 3, rows).name, first)
            rows = {**rows_of_book(), **{key: None for key in keys}}
            self.assertEqual(raised(self, UnknownName, Code, BOOK, LEAST, 3, rows).name, first)
            # The keys count ahead of what is wrong at keepers.
            self.assertEqual(raised(self, UnknownName, Code, BOOK, LEAST, 3, dict.fromkeys(keys)).name, first)

    def test_missing_keepers(self):
        for name in BOOK:
            self.assertEqual(raised(self, InvalidRows, Code, BOOK, LEAST, 3, without(rows_of_book(), name)).name, name)
        for rows, first in (({}, "c"), ({"c": rows_of_book()["c"]}, "a"), ({"a": [[7, 8, 9]]}, "c"),
                            (without(without(rows_of_book(), "a"), "b"), "a")):
            self.assertEqual(raised(self, InvalidRows, Code, BOOK, LEAST, 3, rows).name, first)

    def test_wrong_vectors(self):
        for name in BOOK:
            for value in no_rows(LEAST, BOOK.keep(name), 3):
                rows = {**rows_of_book(), name: value}
                self.assertEqual(raised(self, InvalidRows, Code, BOOK, LEAST, 3, rows).name, name)

    def test_vectors_of_another_modulus(self):
        rows = {**rows_of_book(), "a": [[0, 10007, 0]]}
        self.assertEqual(raised(self, InvalidRows, Code, BOOK, 10007, 3, rows).name, "a")
        self.assertEqual(Code(BOOK, 10009, 3, rows).vectors("a"), [(0, 10007, 0)])

    def test_the_first_keeper_counts(self):
        for wrong in ((0, 1), (0, 2), (1, 2), (0, 1, 2)):
            names = [BOOK.names()[at] for at in wrong]
            for order in (names, list(reversed(names))):
                rows = {**{name: [[1, 2]] for name in order}, **{name: rows for name, rows in rows_of_book().items()
                                                                 if name not in order}}
                self.assertEqual(raised(self, InvalidRows, Code, BOOK, LEAST, 3, rows).name, names[0])

    def test_no_dict_has_no_keeper(self):
        for value in (None, True, 0, "", "abc", (), [], [("a", [[7, 8, 9]])]):
            self.assertEqual(raised(self, InvalidRows, Code, BOOK, LEAST, 3, value).name, "c")


class Ranks(unittest.TestCase):
    def test_named_cases(self):
        rows = {"c": [(1, 2, 3), (2, 4, 6)], "a": [(0, 0, 0)], "b": [(1, 2, 3), (0, 0, 1), (1, 2, 0)]}
        code = Code(BOOK, LEAST, 3, rows)
        self.assertEqual([code.rank(), code.rank("a"), code.rank("c"), code.rank("b"), code.rank("c", "a"),
                          code.rank("b", "c"), code.rank("a", "c", "b")], [0, 0, 1, 2, 1, 2, 2])
        self.assertEqual(code.space("c"), Space(LEAST, 3, [(1, 2, 3)]))
        self.assertEqual(code.space("b", "a"), Space(LEAST, 3, [(1, 2, 0), (0, 0, 1)]))
        self.assertEqual(code.space(), Space(LEAST, 3))
        self.assertEqual(kinds(code.space("b").basis()), kinds([(1, 2, 0), (0, 0, 1)]))

    def test_sums_of_others(self):
        rows = {"c": [(1, 2, 3), (4, 5, 6)], "a": [(5, 7, 9)], "b": [(3, 3, 3), (6, 9, 12), (2, 4, 6)]}
        code = Code(BOOK, GREATEST, 3, rows)
        self.assertEqual([code.rank(*lot) for lot in lots_in_order(["c", "a", "b"])], [0, 2, 1, 2, 2, 2, 2, 2])

    def test_all_lots_in_any_order(self):
        dice = luck(11)
        for many in (1, 2, 3, 4, 5, 6, 7):
            book = Book(*lucky_keepers(dice, many, 2, 4))
            modulus = dice.choice((LEAST, 65537, GREATEST))
            size = dice.randint(1, book.kept_by_all())
            rows = lucky_rows(dice, book, modulus, size)
            for name in book:
                # Some vectors occur twice, or are sums of others.
                rows[name][0] = dice.choice([dice.choice(rows[dice.choice(book.names())]), [0] * size, rows[name][0],
                                             [sum(column) % modulus for column in zip(*rows[name])]])
            code = Code(book, modulus, size, rows)
            for lot in lots_in_order(book.names()):
                shuffled = dice.sample(lot, len(lot))
                self.assertEqual(kinds(code.rank(*shuffled)), kinds(rank_of(modulus, rows_in(code, lot))))
                self.assertEqual(code.space(*shuffled), Space(modulus, size, rows_in(code, lot)))
                self.assertEqual([code.space(*lot).modulus, code.space(*lot).size], [modulus, size])

    def test_errors_of_a_lot(self):
        for call in (CODE.rank, CODE.space):
            for name in (*NO_NAMES, "d"):
                self.assertEqual(kinds(raised(self, UnknownName, call, name).name), kinds(name))
                self.assertEqual(kinds(raised(self, UnknownName, call, "a", "a", name, "e").name), kinds(name))
            self.assertEqual(raised(self, DuplicateName, call, "b", "a", "c", "a", "b").name, "a")
            self.assertEqual(raised(self, DuplicateName, call, "b", "b").name, "b")


if __name__ == "__main__":
    unittest.main()
