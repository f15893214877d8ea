import unittest

from mendworth.books import Book
from mendworth.codes import Code, fresh
from mendworth.errors import Differ, InUse, InvalidCount, InvalidRows, InvalidSize, UnknownName, Weak
from mendworth.mends import admission, codes_behind, mend
from mendworth.worths import worth
from tests.helper import (GREATEST, LEAST, NO_NAMES, full_keepers, kinds, lots_in_order, luck, lucky_keepers,
                          lucky_rows, plain_weak_lots, raised, rank_of, rows_in)

CHAIN = Book(("a", 1, [{"b": 1}]), ("b", 3, [{"c": 1}]), ("c", 3, []))
MODULI = (LEAST, 10009, 65537, GREATEST)


def with_zeros(code, *names):
    """The code with vectors of zeros at some keepers."""
    table = code.table()
    for name in names:
        table[name] = [(0,) * code.size] * code.book.keep(name)
    return Code(code.book, code.modulus, code.size, table)


class WeakLots(unittest.TestCase):
    def test_chain(self):
        # The worths: 1 for a and b alone, 2 for both, 3 with c.
        code = fresh(CHAIN, LEAST, 3)
        self.assertIsNone(code.weak_lot())
        self.assertIs(code.is_sound(), True)
        rows = {"a": [(1, 0, 0)], "b": [(1, 0, 0)] * 3, "c": [(1, 0, 0), (0, 1, 0), (0, 0, 1)]}
        self.assertEqual([worth(CHAIN, *lot) for lot in (("a",), ("b",), ("c",), ("a", "b"))], [1, 1, 3, 1])
        self.assertIsNone(Code(CHAIN, LEAST, 3, rows).weak_lot())
        rows["c"] = [(1, 0, 0), (0, 1, 0), (1, 1, 0)]
        self.assertEqual(Code(CHAIN, LEAST, 3, rows).weak_lot(), ("c",))
        rows["b"] = [(0, 0, 0)] * 3
        self.assertEqual(Code(CHAIN, LEAST, 3, rows).weak_lot(), ("b",))
        rows["a"] = [(0, 0, 0)]
        self.assertEqual(Code(CHAIN, LEAST, 3, rows).weak_lot(), ("a",))

    def test_less_than_the_worth_is_enough_for_a_short_file(self):
        rows = {"a": [(1,)], "b": [(1,)] * 3, "c": [(5,), (0,), (0,)]}
        self.assertIs(Code(CHAIN, LEAST, 1, rows).is_sound(), True)
        rows["c"][0] = (0,)
        self.assertEqual(kinds(Code(CHAIN, LEAST, 1, rows).weak_lot()), kinds(("c",)))
        self.assertIs(Code(CHAIN, LEAST, 1, rows).is_sound(), False)

    def test_a_greater_lot_alone_is_weak(self):
        book = Book.alike("b", "a", "c", keep=2, helpers=2)
        rows = {"b": [(1, 0, 0), (0, 1, 0)], "a": [(1, 0, 0), (0, 1, 0)], "c": [(0, 0, 1), (1, 0, 0)]}
        self.assertEqual([worth(book, "a"), worth(book, "a", "b")], [2, 3])
        self.assertEqual(Code(book, LEAST, 3, rows).weak_lot(), ("b", "a"))
        rows = {**rows, "a": rows["c"], "c": rows["a"]}
        self.assertEqual(Code(book, LEAST, 3, rows).weak_lot(), ("b", "c"))
        rows = {**rows, "b": rows["a"], "a": rows["c"]}
        self.assertEqual(Code(book, LEAST, 3, rows).weak_lot(), ("a", "c"))
        self.assertIs(Code(book, LEAST, 2, {name: [row[:2] for row in rows["c"]] for name in book}).is_sound(), True)

    def test_zeros_at_one_keeper(self):
        dice = luck(21)
        for many in (1, 2, 3, 5, 7):
            book = Book(*lucky_keepers(dice, many, 3))
            code = fresh(book, dice.choice(MODULI), dice.randint(1, book.kept_by_all()))
            for name in book:
                zeros = with_zeros(code, name)
                self.assertEqual(zeros.weak_lot(), (name,))
                self.assertIs(zeros.is_sound(), False)

    def test_the_first_one_in_the_order_of_readers(self):
        dice = luck(22)
        lengths = set()
        for round_ in range(60):
            many = dice.randint(2, 6)
            book = Book(*lucky_keepers(dice, many, 2, 3))
            modulus = dice.choice(MODULI)
            size = dice.randint(1, book.kept_by_all())
            low = dice.randint(1, size)
            rows = lucky_rows(dice, book, modulus, size)
            # Vectors within a space of a lesser rank make the greater lots weak.
            rows = {name: [[*row[:low], *[0] * (size - low)] for row in rows[name]] for name in rows}
            if round_ < 40:
                first, second = dice.sample(book.names(), 2)
                for at in range(min(book.keep(first), book.keep(second))):
                    rows[first][at] = rows[second][at]
            code = Code(book, modulus, size, rows)
            weak = plain_weak_lots(code)
            self.assertEqual(kinds(code.weak_lot()), kinds(weak[0] if weak else None))
            self.assertIs(code.is_sound(), not weak)
            lengths.add(len(weak[0]) if weak else 0)
        self.assertTrue(lengths >= {0, 1, 2, 3}, lengths)

    def test_weak_codes_are_not_mended(self):
        code = with_zeros(fresh(CHAIN, LEAST, 3), "b")
        for error in (raised(self, Weak, mend, code, "a"), raised(self, Weak, mend, code, "b", 0),
                      raised(self, Weak, admission, code, "d", 1, {"a": 1}),
                      raised(self, Weak, list, codes_behind(code, ("a", 0)))):
            self.assertEqual(kinds(error.lot), kinds(("b",)))


class Fresh(unittest.TestCase):
    def check(self, book, modulus, size):
        code = fresh(book, modulus, size)
        self.assertEqual([code.book, code.modulus, code.size], [book, modulus, size])
        for name in book:
            self.assertEqual(len(code.vectors(name)), book.keep(name))
        for lot in lots_in_order(book.names()):
            kept = sum(book.keep(name) for name in lot)
            self.assertEqual(rank_of(modulus, rows_in(code, lot)), min(kept, size))
        return code

    def test_all_sizes(self):
        dice = luck(31)
        for many in range(1, 5):
            book = Book(*lucky_keepers(dice, many, 2))
            for size in range(1, book.kept_by_all() + 1):
                code = self.check(book, dice.choice(MODULI), size)
                self.assertIsNone(code.weak_lot())
                self.assertIs(code.__class__, Code)

    def test_many_keepers(self):
        dice = luck(32)
        for many in (5, 6, 7):
            book = Book(*lucky_keepers(dice, many, 3))
            for size in (1, 2, dice.randint(3, book.kept_by_all()), book.kept_by_all()):
                for modulus in (LEAST, GREATEST):
                    self.assertIs(self.check(book, modulus, size).is_sound(), True)

    def test_full_books(self):
        dice = luck(33)
        for most in (1, 3, 6):
            book = Book(*full_keepers(dice, most))
            for size in (1, 5, book.kept_by_all()):
                self.assertIs(self.check(book, dice.choice(MODULI), min(size, book.kept_by_all())).is_sound(), True)

    def test_greatest(self):
        book = Book.alike(*"gfedcba", keep=6, helpers=6, letters=6)
        for size in (41, 42):
            self.assertIs(self.check(book, LEAST, size).is_sound(), True)
        self.assertEqual(raised(self, InvalidSize, fresh, book, LEAST, 43).given, 43)

    def test_by_name_and_again(self):
        self.assertEqual(fresh(size=4, modulus=LEAST, book=CHAIN), fresh(CHAIN, LEAST, 4))


class WithBook(unittest.TestCase):
    CODE = fresh(CHAIN, LEAST, 4)

    def test_other_calls(self):
        for book in (CHAIN, CHAIN.without_call("a"), CHAIN.with_call("c", {"a": 1, "b": 6})):
            code = self.CODE.with_book(book)
            self.assertEqual([code.book, code.modulus, code.size], [book, LEAST, 4])
            self.assertEqual(kinds(code.table()), kinds(self.CODE.table()))
        self.assertEqual(self.CODE.with_book(book=CHAIN), self.CODE)

    def test_not_sound_under_the_other_book(self):
        rows = {"a": [(1, 0, 0)], "b": [(1, 0, 0)] * 3, "c": [(1, 0, 0), (0, 1, 0), (0, 0, 1)]}
        code = Code(CHAIN, LEAST, 3, rows)
        self.assertIs(code.is_sound(), True)
        self.assertEqual(code.with_book(CHAIN.without_call("b")).weak_lot(), ("b",))

    def test_the_code_stays(self):
        before = kinds(self.CODE.table())
        self.CODE.with_book(CHAIN.without_call("a"))
        self.assertEqual(self.CODE.book, CHAIN)
        self.assertEqual(kinds(self.CODE.table()), before)

    def test_other_names(self):
        keepers = CHAIN.keepers()
        for book in (CHAIN.renamed("a", "d"), CHAIN.renamed("c", "d"), CHAIN.with_keeper("d", 1),
                     CHAIN.without_call("a").without_call("b").without_keeper("c"), Book(*reversed(keepers)),
                     Book(keepers[0], keepers[2], keepers[1]), Book(("a", 1, [])), Book(("d", 6, []))):
            raised(self, Differ, self.CODE.with_book, book)

    def test_too_little(self):
        few = CHAIN.with_keep("b", 1).with_keep("c", 1)
        self.assertEqual(kinds(raised(self, InvalidSize, self.CODE.with_book, few).given), "4")
        self.assertEqual(raised(self, InvalidRows, self.CODE.with_book, few.with_keep("a", 2)).name, "a")
        self.assertEqual(raised(self, InvalidRows, self.CODE.with_book, few.with_keep("c", 2)).name, "b")

    def test_another_keep(self):
        for name in CHAIN:
            for keep in range(1, 7):
                if keep != CHAIN.keep(name):
                    error = raised(self, InvalidRows, self.CODE.with_book, CHAIN.with_keep(name, keep))
                    self.assertEqual(error.name, name)
        both = CHAIN.with_keep("a", 3).with_keep("b", 1)
        self.assertEqual(raised(self, InvalidRows, self.CODE.with_book, both).name, "a")
        both = CHAIN.with_keep("c", 1).with_keep("b", 5)
        self.assertEqual(raised(self, InvalidRows, self.CODE.with_book, both).name, "b")

    def test_names_count_first(self):
        raised(self, Differ, self.CODE.with_book, Book(("c", 1, []), ("b", 1, []), ("a", 1, [])))


class Without(unittest.TestCase):
    def test_the_rest(self):
        code = fresh(CHAIN, LEAST, 3)
        rest = code.without("a")
        self.assertEqual(rest.book, CHAIN.without_keeper("a"))
        self.assertEqual([rest.modulus, rest.size], [LEAST, 3])
        table = code.table()
        self.assertEqual(kinds(rest.table()), kinds({"b": table["b"], "c": table["c"]}))
        self.assertEqual([code.book, kinds(code.table())], [CHAIN, kinds(table)])
        self.assertEqual(code.without(name="a"), rest)

    def test_lucky_books(self):
        dice = luck(41)
        done = 0
        while done < 25:
            book = Book(*lucky_keepers(dice, dice.randint(2, 6), 2))
            name = dice.choice(book.names())
            if any(name in call for keeper in book.keepers() for call in keeper[2]):
                continue
            size = dice.randint(1, book.kept_by_all() - book.keep(name))
            code = fresh(book, dice.choice(MODULI), size)
            rest = code.without(name)
            self.assertEqual(rest.book, book.without_keeper(name))
            self.assertEqual(rest.table(), {other: code.vectors(other) for other in book if other != name})
            done += 1

    def test_unknown_names(self):
        for name in (*NO_NAMES, "d"):
            self.assertEqual(kinds(raised(self, UnknownName, fresh(CHAIN, LEAST, 7).without, name).name), kinds(name))

    def test_in_use(self):
        for name in ("b", "c"):
            for size in (1, 7):
                self.assertEqual(raised(self, InUse, fresh(CHAIN, LEAST, size).without, name).name, name)
        weak = with_zeros(fresh(CHAIN, LEAST, 7), "a", "b", "c")
        self.assertEqual(raised(self, InUse, weak.without, "c").name, "c")

    def test_the_only_keeper(self):
        for size in (1, 6):
            error = raised(self, InvalidCount, fresh(Book(("a", 6, [])), LEAST, size).without, "a")
            self.assertEqual(kinds(error.given), "0")

    def test_too_little_is_left(self):
        self.assertEqual(kinds(raised(self, InvalidSize, fresh(CHAIN, LEAST, 7).without, "a").given), "7")
        self.assertEqual(fresh(CHAIN, LEAST, 6).without("a").size, 6)
        weak = with_zeros(fresh(CHAIN, LEAST, 7), "b", "c")
        self.assertEqual(raised(self, InvalidSize, weak.without, "a").given, 7)

    def test_weak_rest(self):
        code = with_zeros(fresh(CHAIN, LEAST, 4), "b")
        self.assertEqual(kinds(raised(self, Weak, code.without, "a").lot), kinds(("b",)))
        code = with_zeros(fresh(CHAIN, LEAST, 4), "c", "b")
        self.assertEqual(raised(self, Weak, code.without, "a").lot, ("b",))
        # Zeros at the keeper that leaves do not count.
        code = with_zeros(fresh(CHAIN, LEAST, 4), "a")
        self.assertEqual(code.weak_lot(), ("a",))
        self.assertIs(code.without("a").is_sound(), True)

    def test_two_keepers_alike(self):
        book = Book(("a", 2, []), ("b", 2, []), ("d", 1, [{"a": 1}]))
        rows = {"a": [(1, 0, 0), (0, 1, 0)], "b": [(0, 0, 1), (0, 1, 0)], "d": [(1, 1, 1)]}
        self.assertIs(Code(book, LEAST, 3, rows).without("d").is_sound(), True)
        rows["b"] = [(1, 0, 0), (0, 1, 0)]
        self.assertEqual(raised(self, Weak, Code(book, LEAST, 3, rows).without, "d").lot, ("a", "b"))


if __name__ == "__main__":
    unittest.main()
