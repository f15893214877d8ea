import unittest

from mendworth.books import Book
from mendworth.codes import Code, fresh
from mendworth.errors import (DuplicateName, Full, InvalidCall, InvalidKeep, InvalidName, Steady, UnknownCall,
                              UnknownName, Weak)
from mendworth.mends import Mend, admission, mend
from tests.helper import (GREATEST, LEAST, NO_AMOUNTS, NO_NAMES, full_keepers, kinds, luck, lucky_falls,
                          lucky_keepers, plain_weak_lots, raised)
from tests.test_keepers import NO_CALLS
from tests.test_mend_papers import plain_after, plain_messages

BOOK = Book(("c", 2, [{"b": 2, "a": 1}, {"b": 1}]), ("a", 1, [{"b": 1}]), ("b", 3, []))
CODE = fresh(BOOK, LEAST, 4)

# Each is no index of a call of c.
NO_PLACES = (None, True, False, -1, 2, 10 ** 30, "", "0", "a", (), (0,), [], [0], {}, {0: 0}, [[(None, {"a": [1]})]])


def with_zeros(code, name):
    table = code.table()
    table[name] = [(0,) * code.size] * code.book.keep(name)
    return Code(code.book, code.modulus, code.size, table)


def check(test, paper, code, name, at):
    """Whether a mend is of this fall, tells factors of the documented kinds, and holds; plainly looked at."""
    call = code.book.call(name, at)
    test.assertIs(paper.__class__, Mend)
    test.assertEqual([paper.before, paper.book], [code, code.book])
    test.assertEqual(kinds([paper.keeper, paper.place]), kinds([name, at]))
    test.assertIs(paper.holds(), True)
    sent, kept = paper.sent(), paper.kept()
    test.assertEqual(sorted(sent), sorted(call))
    for rows, many, long in [(sent[helper], call[helper], code.book.keep(helper)) for helper in call] + [
            (kept, code.book.keep(name), sum(call.values()))]:
        test.assertIsInstance(rows, list)
        test.assertEqual([len(row) for row in rows], [long] * many)
        for row in rows:
            test.assertIsInstance(row, list)
            test.assertTrue(all(0 <= factor < code.modulus and factor.__class__ is int for factor in row))
    test.assertEqual(kinds(paper.messages()), kinds(plain_messages(code, call, sent)))
    test.assertEqual(kinds(paper.after().table()), kinds(plain_after(code, name, call, sent, kept)))
    test.assertEqual(plain_weak_lots(paper.after()), [])


class EachFall(unittest.TestCase):
    def test_named_book(self):
        for size in range(1, 7):
            for name, at in (("c", 0), ("c", 1), ("a", 0)):
                for modulus in (LEAST, GREATEST):
                    code = fresh(BOOK, modulus, size)
                    check(self, mend(code, name, at), code, name, at)

    def test_the_first_call_by_default(self):
        check(self, mend(CODE, "c"), CODE, "c", 0)
        self.assertEqual(mend(CODE, "c").after(), mend(CODE, "c", 0).after())
        check(self, mend(at=1, name="c", code=CODE), CODE, "c", 1)

    def test_lucky_books_of_all_sizes(self):
        dice = luck(61)
        for many in (2, 3, 4):
            for _ in range(3):
                book = Book(*lucky_keepers(dice, many, 2, 4))
                for size in range(1, book.kept_by_all() + 1):
                    code = fresh(book, dice.choice((LEAST, 10009, GREATEST)), size)
                    for name, at in lucky_falls(dice, book, 2):
                        check(self, mend(code, name, at), code, name, at)

    def test_each_call_of_a_book(self):
        dice = luck(62)
        book = Book(*lucky_keepers(dice, 5, 4))
        for size in (2, book.kept_by_all() // 2, book.kept_by_all()):
            code = fresh(book, LEAST, size)
            for name in book:
                for at in range(len(book.calls(name))):
                    check(self, mend(code, name, at), code, name, at)

    def test_full_books(self):
        dice = luck(63)
        for most in (2, 6):
            book = Book(*full_keepers(dice, most))
            for size in (1, 4, book.kept_by_all() // 2, book.kept_by_all()):
                code = fresh(book, dice.choice((LEAST, GREATEST)), size)
                for name, at in lucky_falls(dice, book, 2):
                    check(self, mend(code, name, at), code, name, at)

    def test_helpers_that_send_more_than_they_keep(self):
        book = Book(("a", 6, [{"b": 6, "c": 6}]), ("b", 1, [{"a": 6}]), ("c", 2, [{"a": 1, "b": 6}]))
        for size in (1, 2, 3, 9):
            code = fresh(book, LEAST, size)
            for name in book:
                check(self, mend(code, name), code, name, 0)

    def test_much_is_sent_and_kept(self):
        # The worth of all seven is 36, so the ranks are needed to the last letter.
        book = Book.alike(*"abcdefg", keep=6, helpers=6, letters=6)
        for size in (35, 42):
            code = fresh(book, LEAST, size)
            check(self, mend(code, "d"), code, "d", 0)

    def test_codes_that_are_sound_but_not_fresh(self):
        # All that a and b keep is the same, as far as their worth allows.
        chain = Book(("a", 1, [{"b": 1}]), ("b", 3, [{"c": 1}]), ("c", 3, []))
        rows = {"a": [(1, 0, 0)], "b": [(0, 0, 0), (0, 0, 0), (1, 0, 0)], "c": [(1, 0, 0), (0, 1, 0), (0, 0, 1)]}
        code = Code(chain, LEAST, 3, rows)
        check(self, mend(code, "a"), code, "a", 0)
        check(self, mend(code, "b"), code, "b", 0)

    def test_sums_of_special_vectors(self):
        # Every plain sum of what a keeper has is in the way of some lot.
        book = Book.alike("a", "b", "c", "d", keep=2, helpers=3)
        rows = {"a": [(1, 0, 0, 0), (0, 1, 0, 0)], "b": [(0, 0, 1, 0), (0, 0, 0, 1)],
                "c": [(1, 0, 1, 0), (0, 1, 0, 1)], "d": [(1, 0, 2, 0), (0, 1, 0, 2)]}
        for modulus in (LEAST, GREATEST):
            code = Code(book, modulus, 4, rows)
            self.assertIs(code.is_sound(), True)
            for name in book:
                check(self, mend(code, name), code, name, 0)

    def test_the_code_stays(self):
        before = kinds(CODE.table())
        mend(CODE, "c")
        admission(CODE, "d", 2, {"a": 1})
        self.assertEqual([kinds(CODE.table()), CODE.book], [before, BOOK])


class Refused(unittest.TestCase):
    def test_unknown_names(self):
        for name in (*NO_NAMES, "d"):
            self.assertEqual(kinds(raised(self, UnknownName, mend, CODE, name).name), kinds(name))
            self.assertEqual(kinds(raised(self, UnknownName, mend, with_zeros(CODE, "a"), name, None).name),
                             kinds(name))

    def test_steady(self):
        for at in (0, *NO_PLACES):
            self.assertEqual(raised(self, Steady, mend, CODE, "b", at).name, "b")
            self.assertEqual(raised(self, Steady, mend, with_zeros(CODE, "a"), "b", at).name, "b")

    def test_unknown_calls(self):
        for at in NO_PLACES:
            self.assertEqual(kinds(raised(self, UnknownCall, mend, CODE, "c", at).at), kinds(at))
            self.assertEqual(kinds(raised(self, UnknownCall, mend, with_zeros(CODE, "a"), "c", at).at), kinds(at))
        self.assertEqual(raised(self, UnknownCall, mend, CODE, "a", 1).at, 1)

    def test_weak(self):
        for name in BOOK:
            for fallen, at in (("c", 0), ("c", 1), ("a", 0)):
                self.assertEqual(kinds(raised(self, Weak, mend, with_zeros(CODE, name), fallen, at).lot),
                                 kinds((name,)))
        both = with_zeros(with_zeros(CODE, "b"), "a")
        self.assertEqual(raised(self, Weak, mend, both, "c").lot, ("a",))


def check_admission(test, code, name, keep, calls):
    """Whether a newcomer is admitted as the document tells it."""
    paper = admission(code, name, keep, *calls)
    book = code.book.with_keeper(name, keep, *calls)
    before = Code(book, code.modulus, code.size, {**code.table(), name: [(0,) * code.size] * keep})
    check(test, paper, before, name, 0)


class Newcomers(unittest.TestCase):
    def test_one_call(self):
        for size in range(1, 7):
            code = fresh(BOOK, LEAST, size)
            for keep, call in ((1, {"b": 1}), (6, {"b": 1}), (2, {"a": 6, "b": 6, "c": 6}), (3, {"c": 2, "a": 1})):
                check_admission(self, code, "d", keep, [call])

    def test_several_calls(self):
        for calls in ([{"b": 3}, {"a": 1}], [{"a": 1, "b": 2}, {"b": 2}, {"c": 6}], [{"b": 1}] * 20):
            check_admission(self, CODE, "new", 3, calls)

    def test_what_is_told(self):
        paper = admission(CODE, "d", 2, {"b": 2, "c": 1}, {"a": 1})
        self.assertEqual([paper.told(), repr(paper)], ["mend d 0", "Paper(mend d 0)"])
        self.assertEqual(paper.before.vectors("d"), [(0, 0, 0, 0), (0, 0, 0, 0)])
        self.assertEqual(paper.before.book.keepers(), [*BOOK.keepers(), ("d", 2, [{"b": 2, "c": 1}, {"a": 1}])])
        self.assertEqual(paper.after().book.names(), ["c", "a", "b", "d"])
        self.assertEqual({name: paper.after().vectors(name) for name in BOOK}, CODE.table())
        self.assertIs(paper.before.is_sound(), False)

    def test_by_name(self):
        paper = admission(call={"b": 1}, keep=1, name="d", code=CODE)
        self.assertEqual(paper.after(), admission(CODE, "d", 1, {"b": 1}).after())

    def test_lucky_books(self):
        dice = luck(71)
        for many in (1, 2, 3, 4, 5, 6):
            for _ in range(3):
                book = Book(*lucky_keepers(dice, many, 3))
                code = fresh(book, dice.choice((LEAST, GREATEST)), dice.randint(1, book.kept_by_all()))
                calls = [{name: dice.randint(1, 6) for name in dice.sample(book.names(), dice.randint(1, many))}
                         for _ in range(dice.randint(1, 3))]
                check_admission(self, code, "newcomer", dice.randint(1, 6), calls)

    def test_one_behind_another(self):
        code = fresh(Book(("a", 2, [])), LEAST, 2)
        for at, name in enumerate("bcdefg"):
            check_admission(self, code, name, 2, [{other: 1 for other in code.book}] if at else [{"a": 2}])
            code = admission(code, name, 2, {other: 1 for other in code.book} if at else {"a": 2}).after()
        self.assertEqual(code.rank("b", "g"), 2)
        self.assertEqual(raised(self, Full, admission, code, "h", 2, {"a": 1}).allowed, 7)

    def test_what_is_passed_stays(self):
        call, other = {"b": 2}, {"a": 1}
        paper = admission(CODE, "d", 2, call, other)
        self.assertEqual([call, other], [{"b": 2}, {"a": 1}])
        call["a"] = 6
        other.clear()
        self.assertEqual(paper.book.calls("d"), [{"b": 2}, {"a": 1}])


class NewcomersRefused(unittest.TestCase):
    WEAK = with_zeros(CODE, "a")

    def test_full(self):
        seven = fresh(Book.alike(*"abcdefg", keep=1, helpers=2), LEAST, 2)
        for code in (seven, with_zeros(seven, "c")):
            for values in (("h", 1, {"a": 1}), ("a", 1, {"a": 1}), (None, None, None), ("H", 0, {})):
                self.assertEqual(kinds(raised(self, Full, admission, code, *values).allowed), "7")

    def test_names(self):
        for code in (CODE, self.WEAK):
            for name in NO_NAMES:
                self.assertEqual(kinds(raised(self, InvalidName, admission, code, name, 0, {}).name), kinds(name))
            for name in BOOK:
                self.assertEqual(raised(self, DuplicateName, admission, code, name, 0, {}).name, name)

    def test_keeps(self):
        for code in (CODE, self.WEAK):
            for keep in NO_AMOUNTS:
                self.assertEqual(kinds(raised(self, InvalidKeep, admission, code, "x", keep, {}).given), kinds(keep))

    def test_calls(self):
        # NO_CALLS are no calls of b beside a and c.
        code = fresh(Book(("a", 1, []), ("c", 3, [{"a": 1}])), LEAST, 2)
        for call in NO_CALLS:
            error = raised(self, InvalidCall, admission, code, "b", 1, call)
            self.assertEqual(kinds([error.name, error.at]), kinds(["b", 0]))
            error = raised(self, InvalidCall, admission, with_zeros(code, "a"), "b", 1, {"a": 1}, {"c": 2}, call, None)
            self.assertEqual(kinds([error.name, error.at]), kinds(["b", 2]))
        error = raised(self, InvalidCall, admission, code, "b", 1, *[{"a": 1}] * 21)
        self.assertEqual([error.name, error.at], ["b", 20])

    def test_weak(self):
        for name in BOOK:
            error = raised(self, Weak, admission, with_zeros(CODE, name), "d", 1, {"b": 1})
            self.assertEqual(kinds(error.lot), kinds((name,)))


if __name__ == "__main__":
    unittest.main()
