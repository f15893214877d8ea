import unittest

from mendworth.books import Book
from mendworth.errors import Torn, Unreadable
from mendworth.files import added, agree, mended, recovered, suspects
from mendworth.mends import admission, mend
from mendworth.vault import Vault
from tests.helper import LEAST, kinds, letters_of, lots_in_order, luck, lucky_falls, lucky_keepers, raised

BOOK = Book.alike("c", "b", "a", "d", keep=2, helpers=3)


def with_file(*file, book=BOOK):
    vault = Vault(book, LEAST)
    vault.apply(("put", file))
    return vault


def values_of(vault):
    return {name: vault.letters(name) for name in vault.book}


class Spoilt(unittest.TestCase):
    def test_what_is_told(self):
        vault = with_file(1, 2, 3)
        vault.apply(("spoil", "a", 1, 0))
        values = values_of(vault)
        self.assertEqual(kinds(vault.suspects()), kinds(["a"]))
        for lot in lots_in_order(BOOK.names()):
            self.assertIs(vault.agree(*lot), agree(vault.present, values, *lot))
        for lot in (("c", "b"), ("d", "c"), ("b", "c", "d")):
            self.assertEqual(kinds(vault.fetch(*lot)), kinds([1, 2, 3]))
        for lot in (("a", "b"), ("b", "a"), ("d", "a", "c"), ("a", "d", "b", "c")):
            self.assertIs(vault.agree(*lot), False)
            self.assertEqual(kinds(raised(self, Torn, vault.fetch, *lot).lot), kinds(lot))
        for lot in ((), ("a",), ("c",)):
            self.assertIs(vault.agree(*lot), True)
            self.assertEqual(kinds(raised(self, Unreadable, vault.fetch, *lot).lot), kinds(lot))

    def test_two_keepers(self):
        vault = with_file(1, 2)
        vault.apply(("spoil", "a", 1, 0), ("spoil", "c", 0, 9))
        self.assertEqual(vault.suspects(), [])
        self.assertIs(vault.agree("a", "b", "c", "d"), False)
        self.assertEqual(vault.fetch("d", "b"), [1, 2])

    def test_a_right_letter_spoils_nothing(self):
        vault = with_file(1, 2, 3)
        vault.apply(("spoil", "a", 1, vault.letters("a")[1]))
        self.assertEqual([vault.suspects(), vault.fetch(*BOOK)], [[], [1, 2, 3]])

    def test_repaired_by_a_mend(self):
        vault = with_file(1, 2, 3)
        vault.apply(("spoil", "a", 0, 0), ("spoil", "a", 1, 0))
        self.assertEqual(vault.suspects(), ["a"])
        vault.apply(("mend", "a", 0))
        self.assertEqual([vault.suspects(), vault.fetch("a", "c")], [[], [1, 2, 3]])

    def test_a_mend_by_spoilt_helpers(self):
        vault = with_file(1, 2, 3)
        vault.apply(("spoil", "a", 0, 0), ("spoil", "a", 1, 0))
        values, paper = values_of(vault), mend(vault.present, "b")
        vault.apply(("mend", "b", 0))
        self.assertEqual(kinds(values_of(vault)), kinds(mended(paper, values)))
        self.assertNotEqual(vault.letters("b"), letters_of(vault.present, [1, 2, 3])["b"])
        self.assertEqual(vault.suspects(), suspects(vault.present, values_of(vault)))
        self.assertEqual(vault.fetch("c", "d"), [1, 2, 3])

    def test_an_admission_by_spoilt_helpers(self):
        vault = with_file(1, 2, 3)
        vault.apply(("spoil", "a", 0, 0), ("spoil", "b", 1, 0))
        for name, call in (("e", {"a": 2, "b": 1}), ("f", {"c": 1, "d": 1}), ("g", {"e": 2})):
            values, paper = values_of(vault), admission(vault.present, name, 2, call)
            vault.apply(("admit", name, 2, call))
            self.assertEqual(vault.present, paper.after())
            self.assertEqual(kinds(values_of(vault)), kinds(mended(paper, values)))
        right = letters_of(vault.present, [1, 2, 3])
        self.assertEqual([name for name in vault.book if vault.letters(name) != right[name]], ["b", "a", "e", "g"])

    def test_add_changes_spoilt_letters_too(self):
        vault = with_file(1, 2, 3)
        vault.apply(("spoil", "a", 0, 0))
        values = values_of(vault)
        vault.apply(("add", 1, 100))
        self.assertEqual(kinds(values_of(vault)), kinds(added(vault.present, values, 1, 100)))
        self.assertEqual([vault.suspects(), vault.fetch("b", "d")], [["a"], [1, 102, 3]])

    def test_lucky_rows(self):
        dice = luck(601)
        torn = 0
        for _ in range(30):
            book = Book(*lucky_keepers(dice, dice.randint(2, 4), 2, 3))
            vault = with_file(*[dice.randrange(LEAST) for _ in range(dice.randint(1, 3))][:book.kept_by_all()],
                              book=book)
            values = values_of(vault)
            for _ in range(5):
                word = dice.choice(("spoil", "add", "mend"))
                if word == "spoil":
                    name = dice.choice(book.names())
                    at, letter = dice.randrange(book.keep(name)), dice.randrange(LEAST)
                    vault.apply(("spoil", name, at, letter))
                    values = {**values, name: [*values[name][:at], letter, *values[name][at + 1:]]}
                elif word == "add":
                    at, number = dice.randrange(vault.present.size), dice.randrange(LEAST)
                    vault.apply(("add", at, number))
                    values = added(vault.present, values, at, number)
                else:
                    for name, at in lucky_falls(dice, book, 1):
                        values = mended(mend(vault.present, name, at), values)
                        vault.apply(("mend", name, at))
                self.assertEqual(kinds(values_of(vault)), kinds(values))
                self.assertEqual(vault.suspects(), suspects(vault.present, values))
            for lot in lots_in_order(book.names()):
                lot = dice.sample(lot, len(lot))
                self.assertIs(vault.agree(*lot), agree(vault.present, values, *lot))
                if not vault.agree(*lot):
                    self.assertEqual(raised(self, Torn, vault.fetch, *lot).lot, tuple(lot))
                    torn += 1
                elif vault.present.rank(*lot) == vault.present.size:
                    self.assertEqual(vault.fetch(*lot), recovered(vault.present, values, *lot))
                else:
                    self.assertEqual(raised(self, Unreadable, vault.fetch, *lot).lot, tuple(lot))
        self.assertGreater(torn, 40)


if __name__ == "__main__":
    unittest.main()
