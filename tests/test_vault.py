import unittest

from mendworth.books import Book
from mendworth.errors import DuplicateName, InvalidFile, NoFile, UnknownName
from mendworth.pages import read_page, write_page
from mendworth.vault import Vault
from mendworth.worths import worth
from tests.helper import (GREATEST, LEAST, NO_NAMES, full_keepers, held_by, kinds, letters_of, lots_in_order, luck,
                          plain_worths, raised, told_by)

BOOK = Book(("c", 2, [{"b": 2, "a": 1}, {"b": 1}]), ("a", 1, [{"b": 1}]), ("b", 3, []))


def with_file(*file, book=BOOK, modulus=LEAST):
    vault = Vault(book, modulus)
    vault.apply(("put", file or (5, 0, 10006)))
    return vault


class Told(unittest.TestCase):
    def test_without_a_file(self):
        vault = Vault(BOOK, LEAST)
        self.assertEqual([vault.book, vault.modulus, vault.present, vault.history(), vault.limit, vault.busy,
                          vault.kept(), vault.computed, len(vault), bool(vault)],
                         [BOOK, LEAST, None, (0, 0), 40, False, [], 0, 3, True])
        self.assertEqual(kinds([vault.modulus, vault.history(), vault.busy, vault.computed, len(vault)]),
                         kinds([LEAST, (0, 0), False, 0, 3]))
        self.assertIs(bool(vault), True)

    def test_repr(self):
        one = Book(("a", 6, []))
        for vault, text in ((Vault(one, LEAST), "Vault(1 keepers, 0 letters)"),
                            (with_file(1, book=one), "Vault(1 keepers, 1 letters)"),
                            (with_file(1, 2, 3, 4), "Vault(3 keepers, 4 letters)"),
                            (Vault(Book.alike(*"abcdefg", keep=1, helpers=1), GREATEST),
                             "Vault(7 keepers, 0 letters)")):
            self.assertEqual([repr(vault), str(vault)], [text] * 2)

    def test_names_in_it(self):
        vault = Vault(BOOK, LEAST)
        for value in (*NO_NAMES, "d", "aa"):
            self.assertIs(value in vault, False)
        self.assertEqual([name in vault for name in BOOK], [True] * 3)
        vault.apply(("admit", "d", 1, {"a": 1}))
        self.assertEqual(["d" in vault, len(vault)], [True, 4])

    def test_properties_are_not_assigned(self):
        vault = Vault(BOOK, LEAST)
        for name in ("book", "modulus", "present", "busy", "computed"):
            with self.assertRaises(AttributeError):
                setattr(vault, name, 1)

    def test_letters(self):
        vault = with_file()
        self.assertEqual(kinds({name: vault.letters(name=name) for name in BOOK}),
                         kinds(letters_of(vault.present, [5, 0, 10006])))
        vault.letters("b")[0] = None
        self.assertEqual(kinds(vault.letters("b")), kinds(letters_of(vault.present, [5, 0, 10006])["b"]))

    def test_errors_of_what_is_asked(self):
        for vault in (Vault(BOOK, LEAST), with_file()):
            for name in (*NO_NAMES, "d"):
                self.assertEqual(kinds(raised(self, UnknownName, vault.letters, name).name), kinds(name))
                for call in (vault.fetch, vault.agree, vault.worth):
                    self.assertEqual(kinds(raised(self, UnknownName, call, "a", "a", name).name), kinds(name))
                    self.assertEqual(raised(self, DuplicateName, call, "b", "a", "c", "a", "b").name, "a")
        vault = Vault(BOOK, LEAST)
        for call in (lambda: vault.letters("a"), lambda: vault.fetch("a"), vault.fetch, vault.agree, vault.suspects,
                     lambda: vault.agree("a", "b", "c")):
            raised(self, NoFile, call)
        self.assertEqual(vault.kept(), [])

    def test_busy_while_deeds_are_done(self):
        vault = with_file()
        seen = []

        class Watching(list):
            def __len__(self):
                seen.append(vault.busy)
                return super().__len__()

        vault.apply(("put", Watching([1, 2])))
        self.assertEqual(set(seen), {True})
        self.assertIs(vault.busy, False)
        raised(self, InvalidFile, vault.apply, ("put", Watching([1] * 9)))
        self.assertEqual(set(seen), {True})
        self.assertIs(vault.busy, False)

    def test_full_books(self):
        dice = luck(501)
        book = Book(*full_keepers(dice, 3))
        vault = with_file(1, 2, 3, book=book)
        vault.apply(("mend", "d", 19), ("mend", "g", 0), ("add", 2, 4))
        vault.apply(("forbid", "g", 3), ("mend", "g", 18))
        self.assertEqual(vault.fetch(*reversed(book.names())), [1, 2, 7])
        self.assertEqual(vault.worth("c", "g"), worth(vault.book, "g", "c"))
        self.assertEqual(read_page(write_page(vault)), vault)


class KeptWorths(unittest.TestCase):
    def test_kept_and_counted(self):
        vault = Vault(BOOK, LEAST)
        table = plain_worths(BOOK.keepers())
        asked = [("b", "c"), (), ("a",), ("c", "b"), ("a",), ("b", "a", "c"), (), ("c",)]
        for lot in asked:
            told = tuple(name for name in BOOK if name in lot)
            self.assertEqual(kinds(vault.worth(*lot)), kinds(table[told]))
        self.assertEqual(kinds(vault.kept()), kinds([("c", "b"), (), ("a",), ("c", "a", "b"), ("c",)]))
        self.assertEqual(kinds(vault.computed), "5")

    def test_all_lots(self):
        dice = luck(511)
        vault = with_file()
        lots = lots_in_order(BOOK.names())
        for _ in range(2):
            for lot in dice.sample(lots, len(lots)):
                self.assertEqual(vault.worth(*dice.sample(lot, len(lot))), worth(BOOK, *lot))
        self.assertEqual([sorted(vault.kept()), vault.computed], [sorted(lots), 8])

    def test_a_lot_that_is_refused_is_not_kept(self):
        vault = Vault(BOOK, LEAST)
        vault.worth("a")
        raised(self, UnknownName, vault.worth, "d")
        raised(self, DuplicateName, vault.worth, "c", "c")
        self.assertEqual([vault.kept(), vault.computed], [[("a",)], 1])

    def kept_behind(self, vault, *deeds):
        vault.worth("b")
        vault.worth("a", "c")
        vault.apply(*deeds)
        return vault.kept()

    def test_dropped_by_other_books(self):
        for deeds in ([("allow", "b", {"a": 1})], [("forbid", "c", 0)], [("admit", "d", 1, {"a": 1})],
                      [("dismiss", "c")], [("add", 0, 1), ("allow", "b", {"a": 1}), ("add", 0, 1)],
                      [("admit", "d", 1, {"a": 1}), ("dismiss", "d"), ("allow", "a", {"c": 6})],
                      [("forbid", "c", 0), ("allow", "c", {"b": 2, "a": 1})]):
            vault = with_file(1, 2)
            self.assertEqual(self.kept_behind(vault, *deeds), [])
            self.assertEqual(vault.computed, 2)
            vault.worth("a")
            self.assertEqual([vault.kept(), vault.computed], [[("a",)], 3])
            vault.undo()
            self.assertEqual(vault.kept(), [])
            vault.worth("a", "b")
            vault.redo()
            self.assertEqual([vault.kept(), vault.computed], [[], 4])
            self.assertEqual(vault.worth("a"), worth(vault.book, "a"))

    def test_kept_by_equal_books(self):
        for deeds in ([], [("add", 0, 1)], [("put", [1])], [("mend", "c", 1), ("spoil", "a", 0, 1)],
                      [("admit", "d", 1, {"a": 1}), ("dismiss", "d")],
                      [("allow", "b", {"a": 1}), ("forbid", "b", 0)],
                      [("forbid", "c", 1), ("mend", "a", 0), ("allow", "c", {"b": 1})]):
            vault = with_file(1, 2)
            lots = [("b",), ("c", "a")]
            self.assertEqual(self.kept_behind(vault, *deeds), lots)
            vault.undo()
            self.assertEqual(vault.kept(), lots)
            vault.redo()
            self.assertEqual([vault.kept(), vault.computed], [lots, 2])
            self.assertEqual([vault.worth("c", "a"), vault.computed], [worth(BOOK, "a", "c"), 2])

    def test_undo_over_several_books(self):
        vault = with_file(1, 2)
        vault.apply(("allow", "b", {"a": 1}))
        vault.apply(("forbid", "b", 0))
        vault.worth("a")
        vault.undo()
        self.assertEqual(vault.kept(), [])
        vault.worth("b")
        vault.undo()
        vault.worth("c")
        vault.undo()
        self.assertEqual([vault.kept(), vault.computed], [[("c",)], 3])
        vault.redo()
        self.assertEqual(vault.kept(), [("c",)])
        vault.redo()
        self.assertEqual(vault.kept(), [])

    def test_refused_deeds_keep_them(self):
        vault = with_file(1, 2)
        vault.worth("a")
        with self.assertRaises(UnknownName):
            vault.apply(("allow", "b", {"a": 1}), ("dismiss", "x"))
        self.assertEqual(vault.kept(), [("a",)])

    def test_a_new_list_each_time(self):
        vault = Vault(BOOK, LEAST)
        vault.worth("a")
        vault.kept().clear()
        self.assertEqual(vault.kept(), [("a",)])
        self.assertIsNot(vault.kept(), vault.kept())

    def test_the_limit_means_nothing_here(self):
        vault = with_file()
        vault.worth("a")
        vault.limit = 1
        self.assertEqual(vault.kept(), [("a",)])


class Twins(unittest.TestCase):
    def many_steps(self):
        vault = Vault(BOOK, LEAST, limit=5)
        for at in range(4):
            vault.apply(("put", [at + 1, 2, 3]))
        vault.apply(("spoil", "b", 2, 8))
        vault.undo()
        vault.undo()
        vault.worth("c")
        vault.worth("a", "b")
        vault.worth("c")
        return vault

    def test_the_same_of_all(self):
        for vault in (self.many_steps(), Vault(BOOK, GREATEST, limit=99), with_file()):
            twin = vault.twin()
            self.assertIs(twin.__class__, Vault)
            self.assertIsNot(twin, vault)
            self.assertEqual(told_by(twin), told_by(vault))
            self.assertTrue(twin == vault)

    def test_the_same_steps(self):
        vault = self.many_steps()
        twin = vault.twin()
        for move in (Vault.redo, Vault.redo, Vault.undo, Vault.undo, Vault.undo, Vault.undo, Vault.redo):
            move(vault)
            move(twin)
            self.assertEqual(told_by(twin), told_by(vault))

    def test_independent(self):
        moves = [lambda v: v.apply(("add", 0, 1)), lambda v: v.apply(("allow", "b", {"a": 1})), lambda v: v.undo(),
                 lambda v: v.redo(), lambda v: v.worth("a"), lambda v: v.set_limit(1), lambda v: v.apply(),
                 lambda v: v.apply(("spoil", "a", 0, 3), ("dismiss", "c"))]
        for first in moves:
            for second in moves:
                one, other = self.many_steps(), self.many_steps().twin()
                vault = self.many_steps()
                twin = vault.twin()
                first(vault)
                second(twin)
                first(one)
                second(other)
                self.assertEqual(told_by(vault), told_by(one))
                self.assertEqual(told_by(twin), told_by(other))
                vault.undo()
                one.undo()
                self.assertEqual(told_by(vault), told_by(one))

    def test_twins_of_twins(self):
        twin = self.many_steps().twin().twin()
        self.assertEqual(told_by(twin), told_by(self.many_steps()))


class Equality(unittest.TestCase):
    def check(self, one, other, equal):
        self.assertIs(one == other, equal)
        self.assertIs(other == one, equal)
        self.assertIs(one != other, not equal)

    def test_equal(self):
        self.check(Vault(BOOK, LEAST), Vault(Book.read(BOOK.text()), LEAST, limit=1), True)
        self.check(with_file(), with_file(), True)
        vault = with_file()
        vault.apply(("add", 0, 1))
        vault.apply(("add", 0, 10006))
        vault.worth("a")
        self.check(vault, with_file(), True)
        vault.undo()
        vault.undo()
        vault.undo()
        self.check(vault, Vault(BOOK, LEAST), True)

    def test_other_moduli_and_books(self):
        self.check(Vault(BOOK, LEAST), Vault(BOOK, 10009), False)
        self.check(Vault(BOOK, LEAST), Vault(BOOK.without_call("a"), LEAST), False)
        self.check(with_file(1), with_file(1, book=BOOK.with_call("b", {"a": 6})), False)
        self.check(with_file(1), with_file(1, modulus=10009), False)

    def test_other_letters_and_codes(self):
        self.check(with_file(), Vault(BOOK, LEAST), False)
        self.check(with_file(1, 2), with_file(1, 3), False)
        self.check(with_file(0, 0), with_file(0, 0, 0), False)
        vault = with_file()
        vault.apply(("spoil", "a", 0, 1))
        self.check(vault, with_file(), False)
        # The letters of zeros are zeros under every code.
        one, other = with_file(0, 0, 0), with_file(0, 0, 0)
        one.apply(("mend", "c", 0))
        self.assertEqual([one.letters(name) for name in BOOK], [other.letters(name) for name in BOOK])
        self.check(one, other, False)

    def test_nothing_else(self):
        vault = with_file()
        for value in (None, True, 0, "", repr(vault), (), [], {}, BOOK, vault.present, write_page(vault)):
            self.check(vault, value, False)


class Independence(unittest.TestCase):
    def test_the_book_of_a_vault(self):
        vault = Vault(BOOK, LEAST)
        before = held_by(vault)
        vault.book.keepers()[0][2].clear()
        vault.book.with_call("b", {"a": 1})
        self.assertEqual(held_by(vault), before)


if __name__ == "__main__":
    unittest.main()
