import unittest

from mendworth.books import Book
from mendworth.codes import Code, fresh
from mendworth.errors import (DuplicateName, Full, InUse, InvalidCall, InvalidCount, InvalidDeed, InvalidFile,
                              InvalidKeep, InvalidName, InvalidSize, InvalidValues, NoFile, Steady, UnknownCall,
                              UnknownName, Weak)
from mendworth.pages import read_page
from mendworth.vault import Vault
from tests.helper import LEAST, NO_AMOUNTS, NO_NAMES, NO_NUMBERS, kinds, letters_of, raised, told_by
from tests.test_files import NO_LETTERS, NO_LISTS
from tests.test_keepers import NO_CALLS
from tests.test_mend import NO_PLACES

# NO_CALLS are no calls of b beside a and c.
BOOK = Book(("c", 2, [{"b": 2, "a": 1}, {"b": 1}]), ("a", 1, [{"b": 1}]), ("b", 3, []))
FILE = [5, 0, 10006, 7]
WORDS = {"put": 2, "add": 3, "mend": 3, "spoil": 4, "admit": 4, "dismiss": 2, "allow": 3, "forbid": 3}

# Each has not the form of a deed.
NO_DEEDS = (None, True, False, 0, 2, "", "put", "add", "undo", [], {}, (), ["put", [1]], ["dismiss", "c"],
            {"put": [1]}, ("Put", [1]), ("put ", [1]), ("", [1]), ("puts", [1]), ("undo",), ("redo",), ("worth", "a"),
            (None, [1]), (True, [1]), (0, [1]), (("put",), [1]), (["put"], [1]), ({"put": 1}, [1]), ((), ()), ([],),
            ({}, 1, 2), "ab", "dismiss c", [[(None, {"a": [1]})]],
            *[(word, *[1] * many) for word in WORDS for many in range(6) if many + 1 != WORDS[word]])


def page_of(code, file):
    """The page of a vault with any code and the letters of a file."""
    values = letters_of(code, file)
    rows = "".join(" ".join(map(str, [name, letter, *row])) + "\n" for name, vectors in code.table().items()
                   for letter, row in zip(values[name], vectors))
    return f"modulus {code.modulus}\n{code.book.text()}file {code.size}\n{rows}"


def with_file(book=BOOK, file=tuple(FILE)):
    vault = Vault(book, LEAST)
    vault.apply(("put", file))
    return vault


def with_zeros(*names, book=BOOK):
    """A vault in which some keepers have vectors of zeros."""
    code = fresh(book, LEAST, 4)
    rows = {name: [(0,) * 4] * book.keep(name) if name in names else code.vectors(name) for name in book}
    return read_page(page_of(Code(book, LEAST, 4, rows), FILE))


class Shared(unittest.TestCase):
    def refused(self, vault, error, *deeds):
        """The error that deeds must raise, behind which the vault is as before."""
        vault.worth(*vault.book)
        before = told_by(vault)
        found = raised(self, error, vault.apply, *deeds)
        self.assertEqual(told_by(vault), before)
        self.assertIs(vault.busy, False)
        return found

    def everywhere(self, vault, error, deed, good=(("add", 0, 1), ("add", 1, 2), ("spoil", "a", 0, 3))):
        """The error, which is the same at each place between good deeds."""
        expected = kinds(sorted(vars(self.refused(vault, error, deed)).items()))
        for at in range(len(good) + 1):
            found = self.refused(vault, error, *good[:at], deed, *good[at:])
            self.assertEqual(kinds(sorted(vars(found).items())), expected)
        return found


class Forms(Shared):
    GOOD = (("put", [1]), ("add", 0, 1), ("allow", "b", {"a": 1}), ("mend", "b", 0))

    def test_each_place(self):
        vault = with_file()
        for value in NO_DEEDS:
            for at in range(len(self.GOOD) + 1):
                deeds = [*self.GOOD[:at], value, *self.GOOD[at:]]
                self.assertEqual(kinds(self.refused(vault, InvalidDeed, *deeds).at), str(at))

    def test_ahead_of_what_is_wrong_in_deeds(self):
        vault = Vault(BOOK, LEAST)
        self.assertEqual(self.refused(vault, InvalidDeed, ("put", None), ("mend", "x", 0), None).at, 2)
        self.assertEqual(self.refused(vault, InvalidDeed, ("add", 0, 1), ("put", [1], 2), None).at, 1)

    def test_the_first_one_counts(self):
        self.assertEqual(self.refused(with_file(), InvalidDeed, ("put", [1]), [], None, ()).at, 1)

    def test_all_forms_are_taken(self):
        vault = with_file(BOOK.with_keeper("e", 1))
        vault.apply(("put", [1]), ("add", 0, 1), ("mend", "c", 0), ("spoil", "a", 0, 1), ("admit", "d", 1, {"a": 1}),
                    ("dismiss", "e"), ("allow", "b", {"a": 1}), ("forbid", "b", 0))
        self.assertEqual(vault.history(), (2, 0))


class Put(Shared):
    def test_values(self):
        for vault in (Vault(BOOK, LEAST), with_file()):
            for value in NO_LISTS:
                self.assertEqual(kinds(self.refused(vault, InvalidFile, ("put", value)).at), "-1")
            for value in NO_LETTERS:
                for at in range(3):
                    file = [1, 2, 3]
                    file[at] = value
                    self.assertEqual(kinds(self.refused(vault, InvalidFile, ("put", file)).at), str(at))
            for many in (0, 7, 8, 42, 60):
                self.assertEqual(kinds(self.refused(vault, InvalidFile, ("put", [1] * many)).at), "-1")
                self.assertEqual(kinds(self.refused(vault, InvalidFile, ("put", (1,) * many)).at), "-1")
            # Letters count ahead of the length.
            self.assertEqual(self.refused(vault, InvalidFile, ("put", [1] * 8 + [LEAST])).at, 8)
        self.everywhere(with_file(), InvalidFile, ("put", []))


class Add(Shared):
    def test_no_file(self):
        for deed in (("add", 0, 1), ("add", None, None), ("add", -1, LEAST)):
            self.refused(Vault(BOOK, LEAST), NoFile, deed)

    def test_indexes(self):
        vault = with_file()
        for at in (*NO_NUMBERS, -1, 4, 5, 10 ** 30):
            for number in (0, 1, None):
                self.assertEqual(kinds(self.refused(vault, InvalidFile, ("add", at, number)).at), kinds(at))
        self.assertEqual(self.everywhere(vault, InvalidFile, ("add", 4, 0)).at, 4)

    def test_numbers(self):
        vault = with_file()
        for number in NO_LETTERS:
            for at in range(4):
                self.assertEqual(kinds(self.refused(vault, InvalidFile, ("add", at, number)).at), kinds(at))


class Mended(Shared):
    def test_unknown_names(self):
        for vault in (Vault(BOOK, LEAST), with_file(), with_zeros("c")):
            for name in (*NO_NAMES, "d"):
                for at in (0, None):
                    self.assertEqual(kinds(self.refused(vault, UnknownName, ("mend", name, at)).name), kinds(name))
        self.everywhere(with_file(), UnknownName, ("mend", "d", 0))

    def test_no_file(self):
        for name in BOOK:
            for at in (0, None, 7):
                self.refused(Vault(BOOK, LEAST), NoFile, ("mend", name, at))

    def test_steady(self):
        for vault in (with_file(), with_zeros("c")):
            for at in (0, None, 7):
                self.assertEqual(self.refused(vault, Steady, ("mend", "b", at)).name, "b")
        self.everywhere(with_file(), Steady, ("mend", "b", 0))

    def test_unknown_calls(self):
        for vault in (with_file(), with_zeros("c")):
            for at in NO_PLACES:
                self.assertEqual(kinds(self.refused(vault, UnknownCall, ("mend", "c", at)).at), kinds(at))
        self.everywhere(with_file(), UnknownCall, ("mend", "c", 2))

    def test_weak(self):
        for names in (("c",), ("a",), ("b",), ("b", "a")):
            error = self.everywhere(with_zeros(*names), Weak, ("mend", "c", 1))
            self.assertEqual(kinds(error.lot), kinds(names[-1:]))


class Spoil(Shared):
    def test_unknown_names(self):
        for vault in (Vault(BOOK, LEAST), with_file()):
            for name in (*NO_NAMES, "d"):
                for at, letter in ((0, 1), (None, None)):
                    found = self.refused(vault, UnknownName, ("spoil", name, at, letter))
                    self.assertEqual(kinds(found.name), kinds(name))

    def test_no_file(self):
        for at, letter in ((0, 1), (None, None), (7, 1)):
            self.refused(Vault(BOOK, LEAST), NoFile, ("spoil", "b", at, letter))

    def test_indexes_and_letters(self):
        vault = with_file()
        for name in BOOK:
            for at in (*NO_NUMBERS, -1, BOOK.keep(name), 10 ** 30):
                self.assertEqual(self.refused(vault, InvalidValues, ("spoil", name, at, 1)).name, name)
            for letter in NO_LETTERS:
                self.assertEqual(self.refused(vault, InvalidValues, ("spoil", name, 0, letter)).name, name)
            self.everywhere(vault, InvalidValues, ("spoil", name, 6, 1))


class Admit(Shared):
    def vaults(self, book):
        return Vault(book, LEAST), with_file(book, [1, 2]), with_zeros("a", book=book)

    def test_full(self):
        for vault in self.vaults(Book.alike(*"abcdefg", keep=1, helpers=2)):
            for deed in (("admit", "h", 1, {"a": 1}), ("admit", None, None, None), ("admit", "a", 0, {})):
                self.assertEqual(kinds(self.refused(vault, Full, deed).allowed), "7")

    def test_names_and_keeps(self):
        for vault in self.vaults(BOOK):
            for name in NO_NAMES:
                for keep, call in ((1, {"a": 1}), (0, None)):
                    found = self.refused(vault, InvalidName, ("admit", name, keep, call))
                    self.assertEqual(kinds(found.name), kinds(name))
            for name in BOOK:
                self.assertEqual(self.refused(vault, DuplicateName, ("admit", name, 0, None)).name, name)
            for keep in NO_AMOUNTS:
                self.assertEqual(kinds(self.refused(vault, InvalidKeep, ("admit", "d", keep, None)).given),
                                 kinds(keep))
        self.everywhere(with_file(), DuplicateName, ("admit", "b", 1, {"a": 1}))

    def test_calls(self):
        book = Book(("a", 1, []), ("c", 3, [{"a": 1}]))
        for vault in self.vaults(book):
            for call in NO_CALLS:
                found = self.refused(vault, InvalidCall, ("admit", "b", 1, call))
                self.assertEqual(kinds([found.name, found.at]), kinds(["b", 0]))

    def test_weak(self):
        for names in (("c",), ("a",), ("b",), ("b", "a")):
            error = self.everywhere(with_zeros(*names), Weak, ("admit", "d", 1, {"a": 1}))
            self.assertEqual(kinds(error.lot), kinds(names[-1:]))


class Dismiss(Shared):
    LOOSE = BOOK.with_keeper("d", 2, {"a": 1, "b": 2})

    def test_unknown_names(self):
        for vault in (Vault(BOOK, LEAST), with_file(), with_zeros("c")):
            for name in (*NO_NAMES, "d"):
                self.assertEqual(kinds(self.refused(vault, UnknownName, ("dismiss", name)).name), kinds(name))

    def test_in_use(self):
        for vault in (Vault(BOOK, LEAST), with_file(), with_file(BOOK, [1] * 6), with_zeros("c")):
            for name in ("a", "b"):
                self.assertEqual(self.refused(vault, InUse, ("dismiss", name)).name, name)
        self.everywhere(with_file(), InUse, ("dismiss", "b"))

    def test_the_only_keeper(self):
        one = Book(("a", 3, []))
        for vault in (Vault(one, LEAST), with_file(one, [1]), with_file(one, [1] * 3)):
            self.assertEqual(kinds(self.refused(vault, InvalidCount, ("dismiss", "a")).given), "0")

    def test_too_little_is_left(self):
        vault = with_file(self.LOOSE, [1] * 7)
        self.assertEqual(kinds(self.everywhere(vault, InvalidSize, ("dismiss", "d")).given), "7")
        vault = with_file(self.LOOSE, [1] * 6)
        vault.apply(("dismiss", "d"))
        self.assertEqual(vault.fetch("c", "a", "b"), [1] * 6)
        # Without a file as little as you like may be left.
        vault = Vault(self.LOOSE, LEAST)
        vault.apply(("dismiss", "d"), ("dismiss", "c"), ("dismiss", "a"))
        self.assertEqual(len(vault), 1)
        self.assertEqual(raised(self, InvalidSize, with_file(Book(("a", 1, []), ("b", 3, [])), [1, 2]).apply,
                                ("dismiss", "b")).given, 2)

    def test_weak(self):
        for names in (("c",), ("a",), ("b",), ("b", "a")):
            vault = with_zeros(*names, book=self.LOOSE)
            self.assertEqual(kinds(self.everywhere(vault, Weak, ("dismiss", "d")).lot), kinds(names[-1:]))
        vault = with_zeros("d", book=self.LOOSE)
        vault.apply(("dismiss", "d"))
        self.assertIs(vault.present.is_sound(), True)


class AllowAndForbid(Shared):
    def test_allow(self):
        for vault in (Vault(BOOK, LEAST), with_file(), with_zeros("c")):
            for name in (*NO_NAMES, "d"):
                for call in ({"a": 1}, None):
                    found = self.refused(vault, UnknownName, ("allow", name, call))
                    self.assertEqual(kinds(found.name), kinds(name))
            for call in NO_CALLS:
                found = self.refused(vault, InvalidCall, ("allow", "b", call))
                self.assertEqual(kinds([found.name, found.at]), kinds(["b", 0]))
            found = self.refused(vault, InvalidCall, ("allow", "c", {"d": 1}))
            self.assertEqual([found.name, found.at], ["c", 2])
        self.everywhere(with_file(), InvalidCall, ("allow", "b", {"b": 1}))

    def test_the_21st_call(self):
        many = BOOK
        for _ in range(20):
            many = many.with_call("b", {"a": 1})
        for vault in (Vault(many, LEAST), with_file(many, [1])):
            found = self.refused(vault, InvalidCall, ("allow", "b", {"a": 1}))
            self.assertEqual([found.name, found.at], ["b", 20])

    def test_forbid(self):
        for vault in (Vault(BOOK, LEAST), with_file(), with_zeros("c")):
            for name in (*NO_NAMES, "d"):
                for at in (0, None):
                    found = self.refused(vault, UnknownName, ("forbid", name, at))
                    self.assertEqual(kinds(found.name), kinds(name))
            for at in NO_PLACES:
                self.assertEqual(kinds(self.refused(vault, UnknownCall, ("forbid", "c", at)).at), kinds(at))
            self.assertEqual(self.refused(vault, UnknownCall, ("forbid", "b", 0)).at, 0)
        self.everywhere(with_file(), UnknownCall, ("forbid", "a", 1))

    def test_weak_from_the_start(self):
        for names in (("c",), ("a",), ("b",), ("b", "a")):
            for deed in (("allow", "b", {"a": 1}), ("forbid", "c", 0), ("forbid", "a", 0), ("allow", "c", {"a": 1})):
                self.assertEqual(kinds(self.everywhere(with_zeros(*names), Weak, deed).lot), kinds(names[-1:]))

    def test_weak_under_the_new_book(self):
        # c may ask b for one letter only, so c needs no more than one; without this call it needs two.
        book = Book(("c", 2, [{"b": 1}]), ("b", 3, []))
        vault = with_file(book, [3, 1, 4])
        vault.apply(("mend", "c", 0))
        self.assertEqual(vault.present.rank("c"), 1)
        self.assertEqual(kinds(self.everywhere(vault, Weak, ("forbid", "c", 0), good=[("add", 0, 1)] * 2).lot),
                         kinds(("c",)))
        vault.apply(("allow", "c", {"b": 2}))
        self.assertEqual(self.refused(vault, Weak, ("forbid", "c", 0)).lot, ("c",))
        vault.apply(("forbid", "c", 1))
        self.assertEqual(vault.book, book)

    def test_a_call_that_makes_a_weak_code_sound(self):
        book = Book(("c", 2, []), ("b", 3, []))
        rows = {"c": [(1, 0), (1, 0)], "b": [(1, 0), (0, 1), (1, 1)]}
        vault = read_page(page_of(Code(book, LEAST, 2, rows), [3, 4]))
        self.assertEqual(vault.present.weak_lot(), ("c",))
        self.assertEqual(self.refused(vault, Weak, ("allow", "b", {"c": 1})).lot, ("c",))
        vault.apply(("allow", "c", {"b": 1}))
        self.assertIs(vault.present.is_sound(), True)
        self.assertEqual(self.refused(vault, Weak, ("forbid", "c", 0)).lot, ("c",))


class Behind(Shared):
    """What stands behind deeds that are refused."""

    def test_steps_stay(self):
        vault = with_file()
        vault.apply(("add", 0, 1))
        vault.apply(("add", 0, 1))
        vault.undo()
        self.assertEqual(vault.history(), (2, 1))
        self.refused(vault, InvalidFile, ("add", 1, 1), ("add", 9, 1))
        self.refused(vault, InvalidDeed, ("add", 1, 1), ("add", 9))
        self.assertEqual(vault.history(), (2, 1))
        vault.redo()
        self.assertEqual(vault.fetch("b", "c"), [7, 0, 10006, 7])

    def test_books_stay(self):
        vault = with_file()
        vault.worth("a", "c")
        for deeds in ((("admit", "d", 1, {"a": 1}), ("dismiss", "b")), (("allow", "b", {"a": 1}), ("mend", "b", 1)),
                      (("forbid", "c", 0), ("forbid", "c", 0), ("forbid", "c", 0)),
                      (("put", [1] * 6), ("put", [1] * 7)), (("spoil", "a", 0, 1), ("spoil", "a", 1, 1))):
            vault.worth("a")
            before = told_by(vault)
            with self.assertRaises(Exception):
                vault.apply(*deeds)
            self.assertEqual(told_by(vault), before)

    def test_a_deed_that_an_earlier_one_makes_good_or_wrong(self):
        vault = Vault(BOOK, LEAST)
        vault.apply(("put", [1]), ("add", 0, 5), ("admit", "d", 1, {"b": 1}), ("mend", "d", 0), ("dismiss", "d"))
        self.assertEqual(vault.fetch("b"), [6])
        self.assertEqual(self.refused(vault, UnknownName, ("admit", "d", 1, {"b": 1}), ("dismiss", "d"),
                                      ("mend", "d", 0)).name, "d")
        self.assertEqual(self.refused(vault, InvalidFile, ("put", [1, 2]), ("add", 1, 1), ("put", [1]),
                                      ("add", 1, 1)).at, 1)


if __name__ == "__main__":
    unittest.main()
