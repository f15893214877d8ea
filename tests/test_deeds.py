import unittest

from mendworth.books import Book
from mendworth.codes import fresh
from mendworth.errors import NoFile
from mendworth.files import added, agree, mended, recovered, stored, suspects
from mendworth.mends import admission, mend
from mendworth.vault import Vault
from tests.helper import (GREATEST, LEAST, full_keepers, held_by, kinds, letters_of, lots_in_order, luck,
                          lucky_falls, lucky_keepers, raised, told_by)

BOOK = Book(("c", 2, [{"b": 2, "a": 1}, {"b": 1}]), ("a", 1, [{"b": 1}]), ("b", 3, []))
FILE = [5, 0, 10006]


def with_file(book=BOOK, file=tuple(FILE), modulus=LEAST):
    vault = Vault(book, modulus)
    vault.apply(("put", file))
    return vault


class Shared(unittest.TestCase):
    def check(self, vault, book, code, values):
        """Whether a vault holds this book, this code and these letters."""
        self.assertEqual(vault.book, book)
        self.assertEqual(len(vault), len(book))
        self.assertEqual(vault.present, code)
        self.assertEqual([name in vault for name in book], [True] * len(book))
        if code is None:
            for name in book:
                raised(self, NoFile, vault.letters, name)
        else:
            self.assertEqual(vault.present.book, book)
            self.assertEqual(kinds({name: vault.letters(name) for name in book}), kinds(values))
        size = 0 if code is None else code.size
        self.assertEqual([repr(vault), str(vault)], [f"Vault({len(book)} keepers, {size} letters)"] * 2)
        self.assertIs(vault.busy, False)

    def check_file(self, vault, file):
        """Whether a vault has the letters of a file."""
        code = vault.present
        values = letters_of(code, file)
        self.check(vault, code.book, code, values)
        self.assertEqual(kinds(vault.fetch(*vault.book)), kinds(list(file)))
        self.assertIs(vault.agree(*vault.book), True)
        self.assertEqual(kinds(vault.suspects()), "list()")


class Put(Shared):
    def test_all_lengths(self):
        for modulus in (LEAST, GREATEST):
            for many in range(1, 7):
                file = [modulus - 1 - at for at in range(many)]
                vault = Vault(BOOK, modulus)
                self.assertIsNone(vault.apply(("put", file)))
                self.check(vault, BOOK, fresh(BOOK, modulus, many), stored(fresh(BOOK, modulus, many), file))
                self.check_file(vault, file)
                self.assertEqual(vault.history(), (1, 0))

    def test_another_file(self):
        vault = with_file()
        vault.apply(("put", [1, 2]))
        self.check_file(vault, [1, 2])
        vault.apply(("put", [9] * 6), ("put", [4]))
        self.check_file(vault, [4])
        self.assertEqual(vault.history(), (3, 0))

    def test_another_file_behind_a_mend(self):
        vault = with_file()
        vault.apply(("mend", "c", 0))
        self.assertNotEqual(vault.present, fresh(BOOK, LEAST, 3))
        vault.apply(("put", FILE))
        self.assertEqual(vault.present, fresh(BOOK, LEAST, 3))

    def test_tuples_and_changes_of_the_list(self):
        vault = Vault(BOOK, LEAST)
        file = [1, 2, 3]
        vault.apply(("put", file))
        file[0] = None
        file.append(1)
        self.check_file(vault, [1, 2, 3])
        vault.apply(("put", (7, 8)))
        self.check_file(vault, [7, 8])

    def test_full_books(self):
        book = Book(*full_keepers(luck(301)))
        file = list(range(book.kept_by_all()))
        vault = with_file(book, file, GREATEST)
        self.check_file(vault, file)


class Add(Shared):
    def test_each_index(self):
        vault = with_file()
        file = list(FILE)
        for at, number in ((0, 1), (1, 10006), (2, 1), (2, 0), (0, 10006)):
            vault.apply(("add", at, number))
            file[at] = (file[at] + number) % LEAST
            self.check_file(vault, file)
            self.assertEqual(vault.present, fresh(BOOK, LEAST, 3))

    def test_several(self):
        vault = with_file()
        vault.apply(("add", 0, 7), ("add", 0, 8), ("add", 2, 9))
        self.check_file(vault, [20, 0, 8])
        self.assertEqual(vault.history(), (2, 0))


class Mended(Shared):
    def test_each_fall(self):
        for name, at in (("c", 0), ("c", 1), ("a", 0)):
            vault = with_file()
            code = vault.present
            vault.apply(("mend", name, at))
            self.assertEqual(vault.present, mend(code, name, at).after())
            self.assertIs(vault.present.is_sound(), True)
            self.check_file(vault, FILE)

    def test_one_behind_another(self):
        dice = luck(311)
        for many in (2, 3, 4, 5):
            book = Book(*lucky_keepers(dice, many, 2, 4))
            file = [dice.randrange(LEAST) for _ in range(dice.randint(1, book.kept_by_all()))]
            one, other = with_file(book, file), with_file(book, file)
            falls = lucky_falls(dice, book, 6)
            for name, at in falls:
                one.apply(("mend", name, at))
            other.apply(*[("mend", name, at) for name, at in falls])
            self.assertEqual(one, other)
            self.assertEqual([one.history(), other.history()], [(1 + len(falls), 0), (2, 0)])
            self.assertIs(one.present.is_sound(), True)
            self.assertEqual({name: one.letters(name) for name in book}, letters_of(one.present, file))

    def test_full_books(self):
        dice = luck(312)
        book = Book(*full_keepers(dice, 3))
        vault = with_file(book, [1, 2, 3, 4])
        vault.apply(*[("mend", name, at) for name, at in lucky_falls(dice, book, 5)], ("add", 3, 10))
        self.assertEqual({name: vault.letters(name) for name in book}, letters_of(vault.present, [1, 2, 3, 14]))


class Spoil(Shared):
    def test_each_letter(self):
        for name in BOOK:
            for at in range(BOOK.keep(name)):
                for letter in (0, 1, 10006):
                    vault = with_file()
                    values = {other: vault.letters(other) for other in BOOK}
                    vault.apply(("spoil", name, at, letter))
                    values[name][at] = letter
                    self.check(vault, BOOK, fresh(BOOK, LEAST, 3), values)

    def test_several(self):
        vault = with_file()
        vault.apply(("spoil", "b", 0, 1), ("spoil", "b", 1, 2), ("spoil", "c", 1, 3), ("spoil", "b", 0, 4))
        right = letters_of(fresh(BOOK, LEAST, 3), FILE)
        self.check(vault, BOOK, fresh(BOOK, LEAST, 3),
                   {"c": [right["c"][0], 3], "a": right["a"], "b": [4, 2, right["b"][2]]})


class Admit(Shared):
    def test_without_a_file(self):
        vault = Vault(BOOK, LEAST)
        vault.apply(("admit", "d", 4, {"a": 1, "b": 6}))
        book = BOOK.with_keeper("d", 4, {"a": 1, "b": 6})
        self.check(vault, book, None, None)
        vault.apply(("admit", "e", 1, {"d": 4}), ("admit", "f", 2, {"e": 1, "d": 1}))
        self.check(vault, book.with_keeper("e", 1, {"d": 4}).with_keeper("f", 2, {"e": 1, "d": 1}), None, None)

    def test_with_a_file(self):
        vault = with_file()
        paper = admission(vault.present, "d", 4, {"a": 1, "b": 6})
        vault.apply(("admit", "d", 4, {"a": 1, "b": 6}))
        self.assertEqual(vault.book, BOOK.with_keeper("d", 4, {"a": 1, "b": 6}))
        self.assertEqual(vault.present, paper.after())
        self.check_file(vault, FILE)
        vault.apply(("admit", "e", 6, {"d": 6, "c": 6, "a": 6}), ("mend", "d", 0), ("mend", "e", 0), ("add", 1, 5))
        self.check_file(vault, [5, 5, 10006])
        self.assertIs(vault.present.is_sound(), True)

    def test_the_call_may_be_changed(self):
        for vault in (Vault(BOOK, LEAST), with_file()):
            call = {"b": 2}
            vault.apply(("admit", "d", 1, call))
            call["a"] = 9
            call["b"] = 0
            self.assertEqual(vault.book.calls("d"), [{"b": 2}])


class Dismiss(Shared):
    LOOSE = BOOK.with_keeper("d", 2, {"a": 1, "b": 2}).with_keeper("e", 1)

    def test_without_a_file(self):
        vault = Vault(self.LOOSE, LEAST)
        vault.apply(("dismiss", "d"))
        self.check(vault, self.LOOSE.without_keeper("d"), None, None)
        vault.apply(("dismiss", "e"), ("dismiss", "c"))
        self.check(vault, BOOK.without_keeper("c"), None, None)

    def test_with_a_file(self):
        vault = with_file(self.LOOSE)
        code = vault.present
        vault.apply(("dismiss", "d"))
        self.check(vault, self.LOOSE.without_keeper("d"), code.without("d"),
                   letters_of(code.without("d"), FILE))
        self.check_file(vault, FILE)
        vault.apply(("dismiss", "e"), ("mend", "c", 0), ("dismiss", "c"))
        self.check_file(vault, FILE)
        self.assertEqual(vault.book.names(), ["a", "b"])

    def test_come_and_go(self):
        vault = with_file()
        before = held_by(vault)
        vault.apply(("admit", "d", 3, {"b": 3}), ("dismiss", "d"))
        self.assertEqual(held_by(vault), before)
        self.assertEqual(vault.history(), (2, 0))


class AllowAndForbid(Shared):
    def test_without_a_file(self):
        vault = Vault(BOOK, LEAST)
        vault.apply(("allow", "b", {"a": 1}))
        self.check(vault, BOOK.with_call("b", {"a": 1}), None, None)
        vault.apply(("forbid", "c", 0), ("allow", "a", {"c": 2}))
        self.check(vault, BOOK.with_call("b", {"a": 1}).without_call("c", 0).with_call("a", {"c": 2}), None, None)
        vault.apply(("forbid", "b", 0), ("forbid", "a", 1), ("forbid", "a", 0))
        self.check(vault, BOOK.without_call("c", 0).without_call("a"), None, None)

    def test_with_a_file(self):
        vault = with_file()
        code = vault.present
        vault.apply(("allow", "b", {"a": 1, "c": 2}))
        book = BOOK.with_call("b", {"a": 1, "c": 2})
        self.check(vault, book, code.with_book(book), letters_of(code, FILE))
        vault.apply(("mend", "b", 0))
        self.check_file(vault, FILE)
        self.assertEqual(vault.present, mend(code.with_book(book), "b").after())

    def test_a_call_that_is_forbidden(self):
        # Behind a mend that is not used any more, the code is as good as the lesser book needs.
        vault = with_file()
        code = vault.present
        vault.apply(("forbid", "c", 1))
        self.check(vault, BOOK.without_call("c", 1), code.with_book(BOOK.without_call("c", 1)), letters_of(code, FILE))
        self.check_file(vault, FILE)

    def test_the_call_may_be_changed(self):
        for vault in (Vault(BOOK, LEAST), with_file()):
            call = {"a": 1}
            vault.apply(("allow", "b", call))
            call["a"] = 9
            call["c"] = 9
            self.assertEqual(vault.book.calls("b"), [{"a": 1}])


class Lucky(Shared):
    """Rows of deeds against what the functions of the other modules tell."""

    def deed(self, dice, vault, code):
        book = vault.book
        name = dice.choice(book.names())
        others = [other for other in book if other != name]
        word = dice.choice(("add", "mend", "spoil", "admit", "dismiss", "allow", "put"))
        if word == "put":
            return ("put", [dice.randrange(LEAST) for _ in range(dice.randint(1, book.kept_by_all()))])
        if word == "add" and code:
            return ("add", dice.randrange(code.size), dice.randrange(LEAST))
        if word == "mend" and code and book.calls(name) and code.is_sound():
            return ("mend", name, dice.randrange(len(book.calls(name))))
        if word == "spoil" and code:
            return ("spoil", name, dice.randrange(book.keep(name)), dice.randrange(LEAST))
        if word == "admit" and len(book) < 6 and (code is None or code.is_sound()):
            new = next(new for new in "xyzuvw" if new not in book)
            return ("admit", new, dice.randint(1, 4), {name: dice.randint(1, 3)})
        if word == "dismiss" and others and not any(name in call for keeper in book.keepers() for call in keeper[2]):
            if code is None or code.size <= book.kept_by_all() - book.keep(name):
                return ("dismiss", name)
        if word == "allow" and others and len(book.calls(name)) < 20:
            return ("allow", name, {dice.choice(others): dice.randint(1, 6)})
        return None

    def behind(self, book, code, values, deed):
        """The book, the code and the letters behind a deed that can be done."""
        word, *items = deed
        if word == "put":
            code = fresh(book, LEAST, len(items[0]))
            return book, code, letters_of(code, items[0])
        if word == "add":
            return book, code, added(code, values, *items)
        if word == "mend":
            paper = mend(code, *items)
            return book, paper.after(), mended(paper, values)
        if word == "spoil":
            name, at, letter = items
            return book, code, {**values, name: [letter if here == at else old
                                                 for here, old in enumerate(values[name])]}
        if word == "admit":
            after = book.with_keeper(*items)
            paper = admission(code, *items) if code else None
            return after, paper and paper.after(), paper and mended(paper, values)
        if word == "dismiss":
            return (book.without_keeper(*items), code and code.without(*items),
                    code and {name: values[name] for name in book if name != items[0]})
        after = book.with_call(*items)
        return after, code and code.with_book(after), values

    def test_rows(self):
        dice = luck(321)
        words = {}
        for _ in range(25):
            book = Book(*lucky_keepers(dice, dice.randint(1, 4), 1, 3))
            vault = Vault(book, LEAST, limit=99)
            code = values = None
            steps = 0
            for _ in range(25):
                deed = self.deed(dice, vault, code)
                if deed is not None:
                    book, code, values = self.behind(book, code, values, deed)
                    vault.apply(deed)
                    steps += 1
                    words[deed[0]] = words.get(deed[0], 0) + 1
                    self.check(vault, book, code, values)
                    self.assertEqual(vault.history(), (steps, 0))
            if code is not None:
                self.assertEqual(vault.suspects(), suspects(code, values))
                for lot in lots_in_order(book.names()):
                    self.assertIs(vault.agree(*lot), agree(code, values, *lot))
                    if vault.agree(*lot) and code.rank(*lot) == code.size:
                        self.assertEqual(vault.fetch(*lot), recovered(code, values, *lot))
        self.assertEqual(len(words), 7)
        self.assertGreater(min(words.values()), 8, words)

    def test_in_one_step(self):
        dice = luck(322)
        for _ in range(10):
            one = with_file(Book(*lucky_keepers(dice, 3, 2, 3)), [1])
            other = one.twin()
            deeds = []
            for _ in range(8):
                deed = self.deed(dice, one, one.present)
                if deed is not None:
                    one.apply(deed)
                    deeds.append(deed)
            other.apply(*deeds)
            self.assertEqual(one, other)
            self.assertEqual(other.history(), (2, 0))
            other.undo()
            self.assertEqual(other.fetch(*other.book), [1])


class Steps(Shared):
    def test_no_deeds_are_a_step(self):
        vault = Vault(BOOK, LEAST)
        vault.apply()
        self.assertEqual(vault.history(), (1, 0))
        self.check(vault, BOOK, None, None)
        vault.apply()
        vault.undo()
        self.assertEqual(vault.history(), (1, 1))
        vault.apply()
        self.assertEqual(vault.history(), (2, 0))

    def test_what_is_asked_changes_nothing(self):
        vault = with_file()
        before = told_by(vault)
        vault.letters("b").clear()
        vault.fetch("b").clear()
        vault.suspects().append(1)
        vault.kept().append(1)
        vault.present.table().clear()
        vault.book.calls("c")[0].clear()
        vault.agree("a"), repr(vault), len(vault), "a" in vault
        self.assertEqual(told_by(vault), before)


if __name__ == "__main__":
    unittest.main()
