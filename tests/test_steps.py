import unittest

from mendworth.books import Book
from mendworth.errors import InvalidLimit, InvalidModulus, NothingLeft
from mendworth.vault import Vault
from tests.helper import LEAST, NO_MODULI, NO_NUMBERS, held_by, kinds, luck, raised, told_by

BOOK = Book(("c", 2, [{"b": 2, "a": 1}, {"b": 1}]), ("a", 1, [{"b": 1}]), ("b", 3, []))
NO_LIMITS = (*NO_NUMBERS, 0, -1, 100, 101, 10 ** 30, -10 ** 30)


def with_steps(many, limit=40):
    """A vault whose file tells how many steps have been made."""
    vault = Vault(BOOK, LEAST, limit=limit)
    for at in range(many):
        vault.apply(("put", [at + 1]))
    return vault


def file_of(vault):
    return vault.fetch("b")[0] if vault.present else 0


class UndoAndRedo(unittest.TestCase):
    def test_back_and_forth(self):
        vault = with_steps(5)
        for at in (4, 3, 2, 1, 0):
            self.assertIsNone(vault.undo())
            self.assertEqual(file_of(vault), at)
            self.assertEqual(kinds(vault.history()), kinds((at, 5 - at)))
        raised(self, NothingLeft, vault.undo)
        self.assertIsNone(vault.present)
        for at in (1, 2, 3, 4, 5):
            self.assertIsNone(vault.redo())
            self.assertEqual(file_of(vault), at)
            self.assertEqual(vault.history(), (at, 5 - at))
        raised(self, NothingLeft, vault.redo)
        self.assertEqual(file_of(vault), 5)

    def test_all_that_is_held(self):
        vault = Vault(BOOK, LEAST)
        states = [held_by(vault)]
        for deed in (("put", [1, 2, 3]), ("mend", "c", 0), ("spoil", "a", 0, 7), ("admit", "d", 2, {"b": 2}),
                     ("allow", "b", {"a": 1}), ("forbid", "b", 0), ("add", 2, 9), ("mend", "d", 0), ("dismiss", "d")):
            vault.apply(deed)
            states.append(held_by(vault))
        for _ in range(2):
            for state in reversed(states[:-1]):
                vault.undo()
                self.assertEqual(held_by(vault), state)
            for state in states[1:]:
                vault.redo()
                self.assertEqual(held_by(vault), state)
        self.assertEqual(vault.history(), (9, 0))

    def test_a_step_of_several_deeds(self):
        vault = with_steps(1)
        vault.apply(("add", 0, 1), ("add", 0, 1), ("mend", "c", 1))
        vault.undo()
        self.assertEqual([file_of(vault), vault.history()], [1, (1, 1)])
        vault.redo()
        self.assertEqual([file_of(vault), vault.history()], [3, (2, 0)])

    def test_another_step_forgets_what_was_undone(self):
        vault = with_steps(4)
        vault.undo()
        vault.undo()
        vault.apply(("add", 0, 100))
        self.assertEqual([file_of(vault), vault.history()], [102, (3, 0)])
        raised(self, NothingLeft, vault.redo)
        vault.undo()
        self.assertEqual([file_of(vault), vault.history()], [2, (2, 1)])
        vault.redo()
        self.assertEqual(file_of(vault), 102)

    def test_a_step_without_deeds(self):
        vault = with_steps(2)
        vault.undo()
        vault.apply()
        self.assertEqual([file_of(vault), vault.history()], [1, (2, 0)])
        vault.undo()
        self.assertEqual([file_of(vault), vault.history()], [1, (1, 1)])

    def test_failed_steps_are_none(self):
        vault = with_steps(3)
        vault.undo()
        before = told_by(vault)
        for deeds in ((("add", 0, 1), ("add", 5, 1)), (None,), (("mend", "b", 0),), (("put", []),)):
            with self.assertRaises(Exception):
                vault.apply(*deeds)
            self.assertEqual(told_by(vault), before)
        vault.redo()
        self.assertEqual([file_of(vault), vault.history()], [3, (3, 0)])

    def test_nothing_left_changes_nothing(self):
        for vault in (Vault(BOOK, LEAST), with_steps(2)):
            before = told_by(vault)
            raised(self, NothingLeft, vault.redo)
            self.assertEqual(told_by(vault), before)
        vault = Vault(BOOK, LEAST)
        error = raised(self, NothingLeft, vault.undo)
        self.assertEqual(error.code, "NothingLeft")
        self.assertEqual(vault.history(), (0, 0))

    def test_spoilt_letters_come_back(self):
        vault = with_steps(1)
        vault.apply(("spoil", "a", 0, 77))
        vault.undo()
        self.assertEqual(vault.suspects(), [])
        vault.redo()
        self.assertEqual(vault.suspects(), ["a"])


class Limits(unittest.TestCase):
    def test_forty_if_none_is_told(self):
        vault = with_steps(45)
        self.assertEqual(kinds([vault.limit, Vault.MOST, vault.MOST]), kinds([40, 99, 99]))
        self.assertEqual(vault.history(), (40, 0))
        for _ in range(40):
            vault.undo()
        self.assertEqual([file_of(vault), vault.history()], [5, (0, 40)])
        raised(self, NothingLeft, vault.undo)
        vault.redo()
        self.assertEqual(file_of(vault), 6)

    def test_each_limit(self):
        for limit in (1, 2, 3, 7, 98, 99):
            vault = with_steps(limit, limit)
            self.assertEqual(vault.history(), (limit, 0))
            vault.apply(("put", [1000]))
            self.assertEqual(vault.history(), (limit, 0))
            for _ in range(limit):
                vault.undo()
            self.assertEqual([file_of(vault), vault.history()], [1, (0, limit)])
            for _ in range(limit):
                vault.redo()
            self.assertEqual([file_of(vault), vault.history()], [1000, (limit, 0)])

    def test_wrong_limits(self):
        for value in NO_LIMITS:
            self.assertEqual(kinds(raised(self, InvalidLimit, self.made, value).given), kinds(value))
            vault = with_steps(3, 7)
            before = told_by(vault)
            self.assertEqual(kinds(raised(self, InvalidLimit, vault.set_limit, value).given), kinds(value))
            self.assertEqual(kinds(raised(self, InvalidLimit, setattr, vault, "limit", value).given), kinds(value))
            self.assertEqual(told_by(vault), before)

    def made(self, limit):
        return Vault(BOOK, LEAST, limit=limit)

    def test_wrong_moduli_count_first(self):
        for modulus in NO_MODULI:
            for limit in (40, 0, None):
                with self.assertRaises(InvalidModulus) as caught:
                    Vault(BOOK, modulus, limit=limit)
                self.assertEqual(kinds(caught.exception.given), kinds(modulus))

    def test_a_limit_that_changes(self):
        for assign in (Vault.set_limit, lambda vault, value: setattr(vault, "limit", value)):
            vault = with_steps(6)
            self.assertIsNone(assign(vault, 4))
            self.assertEqual([vault.limit, vault.history(), file_of(vault)], [4, (4, 0), 6])
            assign(vault, 99)
            self.assertEqual([vault.limit, vault.history()], [99, (4, 0)])
            for _ in range(4):
                vault.undo()
            # The oldest ones are forgotten.
            self.assertEqual(file_of(vault), 2)
            assign(vault, 1)
            self.assertEqual([vault.limit, vault.history(), file_of(vault)], [1, (0, 4), 2])

    def test_steps_that_can_be_redone_stay(self):
        vault = with_steps(6)
        for _ in range(3):
            vault.undo()
        vault.set_limit(1)
        self.assertEqual(vault.history(), (1, 3))
        for at in (4, 5, 6):
            vault.redo()
            # A redo counts as a step for the limit.
            self.assertEqual([file_of(vault), vault.history()], [at, (1, 6 - at)])
        vault.undo()
        self.assertEqual([file_of(vault), vault.history()], [5, (0, 1)])
        raised(self, NothingLeft, vault.undo)

    def test_by_name(self):
        vault = Vault(limit=3, modulus=LEAST, book=BOOK)
        self.assertEqual([vault.limit, vault.modulus, vault.book], [3, LEAST, BOOK])
        vault.set_limit(value=5)
        self.assertEqual(vault.limit, 5)
        with self.assertRaises(TypeError):
            Vault(BOOK, LEAST, 3)

    def test_lucky_rows(self):
        dice = luck(401)
        for _ in range(15):
            limit = dice.randint(1, 5)
            vault = Vault(BOOK, LEAST, limit=limit)
            past, now, future = [], 0, []
            for at in range(1, 80):
                word = dice.choice(("apply", "apply", "undo", "undo", "redo", "limit", "wrong"))
                if word == "apply":
                    vault.apply(("put", [at]))
                    past, now, future = [*past, now][-limit:], at, []
                elif word == "undo" and past:
                    vault.undo()
                    past, now, future = past[:-1], past[-1], [*future, now]
                elif word == "redo" and future:
                    vault.redo()
                    past, now, future = [*past, now][-limit:], future[-1], future[:-1]
                elif word == "limit":
                    limit = dice.randint(1, 6)
                    vault.limit = limit
                    past = past[-limit:]
                elif word == "wrong":
                    with self.assertRaises(Exception):
                        vault.apply(("put", [at]), ("put", []))
                self.assertEqual([file_of(vault), vault.history()], [now, (len(past), len(future))])


if __name__ == "__main__":
    unittest.main()
