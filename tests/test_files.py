import unittest

from mendworth.books import Book
from mendworth.codes import Code, fresh
from mendworth.errors import DuplicateName, InvalidFile, InvalidValues, Torn, UnknownName, Unreadable
from mendworth.files import added, agree, candidates, mended, recovered, stored, suspects
from mendworth.mends import admission, codes_behind, mend
from mendworth.spaces import Space
from tests.helper import (GREATEST, LEAST, NO_NAMES, NO_NUMBERS, full_keepers, is_within, kinds, letters_of,
                          lots_in_order, luck, lucky_falls, lucky_keepers, lucky_rows, raised, rank_of, rows_in)

BOOK = Book(("c", 2, [{"b": 2, "a": 1}, {"b": 1}]), ("a", 1, [{"b": 1}]), ("b", 3, []))
CODE = fresh(BOOK, LEAST, 3)
FILE = [5, 0, 10006]
VALUES = stored(CODE, FILE)

NO_LISTS = (None, True, False, 0, 3, "", "abc", "123", {}, {0: 1, 1: 2, 2: 3})
NO_LETTERS = (None, True, False, -1, LEAST, 10 ** 30, -10 ** 30, "", "1", (), (1,), [], [1], {}, {1: 1},
              [[(None, {"a": [1]})]])


def lucky_file(dice, code):
    return [dice.randrange(code.modulus) for _ in range(code.size)]


def lucky_code(dice, many, most_letters=4):
    book = Book(*lucky_keepers(dice, many, 2, most_letters))
    return fresh(book, dice.choice((LEAST, 10009, GREATEST)), dice.randint(1, book.kept_by_all()))


class Stored(unittest.TestCase):
    def test_named_letters(self):
        rows = {"c": [(1, 2, 3), (10006, 0, 1)], "a": [(0, 0, 0)], "b": [(1, 0, 0), (0, 1, 0), (0, 0, 2)]}
        code = Code(BOOK, LEAST, 3, rows)
        values = stored(code, [1, 10, 10000])
        self.assertEqual(kinds(values), kinds({"c": [(1 + 20 + 30000) % LEAST, 9999], "a": [0], "b": [1, 10, 9993]}))
        self.assertEqual(list(values), ["c", "a", "b"])

    def test_lucky_files(self):
        dice = luck(101)
        for many in (1, 2, 3, 4, 5, 6, 7):
            code = lucky_code(dice, many)
            file = lucky_file(dice, code)
            values = stored(code, file)
            self.assertEqual(kinds(values), kinds(letters_of(code, file)))
            self.assertEqual(list(values), code.book.names())
            self.assertEqual(values, stored(file=tuple(file), code=code))

    def test_no_lists(self):
        for value in NO_LISTS:
            self.assertEqual(kinds(raised(self, InvalidFile, stored, CODE, value).at), "-1")

    def test_no_letters(self):
        for value in NO_LETTERS:
            for at in range(3):
                file = [1, 2, 3]
                file[at] = value
                self.assertEqual(kinds(raised(self, InvalidFile, stored, CODE, file).at), str(at))
                self.assertEqual(kinds(raised(self, InvalidFile, stored, CODE, tuple(file)).at), str(at))

    def test_the_first_one_counts(self):
        self.assertEqual(raised(self, InvalidFile, stored, CODE, [1, None, -1]).at, 1)
        self.assertEqual(raised(self, InvalidFile, stored, CODE, [LEAST, None, -1]).at, 0)

    def test_other_lengths(self):
        for many in (0, 1, 2, 4, 6, 7, 60, 200):
            self.assertEqual(kinds(raised(self, InvalidFile, stored, CODE, [1] * many).at), "-1")
            self.assertEqual(raised(self, InvalidFile, stored, CODE, (1,) * many).at, -1)

    def test_letters_count_ahead_of_the_length(self):
        self.assertEqual(raised(self, InvalidFile, stored, CODE, [1, 2, 3, 4, LEAST]).at, 4)
        self.assertEqual(raised(self, InvalidFile, stored, CODE, [True]).at, 0)

    def test_the_file_stays(self):
        file = [5, 0, 10006]
        stored(CODE, file)
        self.assertEqual(file, FILE)

    def test_new_lists(self):
        values = stored(CODE, FILE)
        values["a"].append(1)
        del values["b"]
        self.assertEqual(kinds(stored(CODE, FILE)), kinds(VALUES))


def changed(values, name, at, by=1, modulus=LEAST):
    """The values in which one letter of a keeper is another one."""
    letters = list(values[name])
    letters[at] = (letters[at] + by) % modulus
    return {**values, name: letters}


class Agree(unittest.TestCase):
    def test_letters_of_a_file(self):
        dice = luck(111)
        for many in (1, 2, 3, 4, 5, 6):
            code = lucky_code(dice, many)
            values = letters_of(code, lucky_file(dice, code))
            for lot in lots_in_order(code.book.names()):
                self.assertIs(agree(code, values, *dice.sample(lot, len(lot))), True)

    def test_changed_letters(self):
        dice = luck(112)
        verdicts = []
        for _ in range(60):
            code = lucky_code(dice, dice.randint(1, 4))
            values = letters_of(code, lucky_file(dice, code))
            name = dice.choice(code.book.names())
            values = changed(values, name, dice.randrange(code.book.keep(name)), dice.randint(1, 9), code.modulus)
            for lot in lots_in_order(code.book.names()):
                rows = rows_in(code, lot)
                longer = [(*row, letter) for row, letter in zip(rows, [x for other in lot for x in values[other]])]
                verdicts.append(rank_of(code.modulus, rows) == rank_of(code.modulus, longer))
                self.assertIs(agree(code, values, *dice.sample(lot, len(lot))), verdicts[-1])
        self.assertGreater(min(verdicts.count(True), verdicts.count(False)), 40)

    def test_vectors_of_zeros(self):
        rows = {"c": [(0, 0, 0), (1, 0, 0)], "a": [(0, 0, 0)], "b": [(0, 0, 0)] * 3}
        code = Code(BOOK, LEAST, 3, rows)
        zeros = {"c": [0, 7], "a": [0], "b": [0, 0, 0]}
        self.assertIs(agree(code, zeros, "b", "c", "a"), True)
        self.assertIs(agree(code, {**zeros, "a": [1]}, "b", "c"), True)
        self.assertIs(agree(code, {**zeros, "a": [1]}, "a"), False)

    def test_no_keepers(self):
        for values in ({}, VALUES, {"a": None}):
            self.assertIs(agree(CODE, values), True)

    def test_by_name_and_tuples(self):
        self.assertIs(agree(values=VALUES, code=CODE), True)
        self.assertIs(agree(CODE, {name: tuple(letters) for name, letters in VALUES.items()}, "a", "b", "c"), True)


class Candidates(unittest.TestCase):
    def check(self, code, values, lot):
        """Whether one file and what may be added to it are told such that these are all files of the letters."""
        told = candidates(code, values, *lot)
        self.assertIsInstance(told, tuple)
        file, space = told
        self.assertIsInstance(file, list)
        self.assertEqual([len(file), space.modulus, space.size], [code.size, code.modulus, code.size])
        self.assertTrue(all(letter.__class__ is int and 0 <= letter < code.modulus for letter in file))
        letters = letters_of(code, file)
        self.assertEqual([letters[name] for name in lot], [list(values[name]) for name in lot])
        rows = rows_in(code, lot)
        self.assertEqual(len(space), code.size - rank_of(code.modulus, rows))
        for vector in space:
            self.assertTrue(all(sum(a * b for a, b in zip(vector, row)) % code.modulus == 0 for row in rows))
        return file, space

    def test_lucky_files(self):
        dice = luck(121)
        for many in (1, 2, 3, 4, 5):
            code = lucky_code(dice, many)
            file = lucky_file(dice, code)
            values = letters_of(code, file)
            for lot in lots_in_order(code.book.names()):
                found, space = self.check(code, values, dice.sample(lot, len(lot)))
                self.assertIn([(a - b) % code.modulus for a, b in zip(file, found)], space)

    def test_low_ranks(self):
        rows = {"c": [(1, 2, 3), (2, 4, 6)], "a": [(0, 0, 0)], "b": [(0, 1, 0), (1, 3, 3), (0, 0, 0)]}
        code = Code(BOOK, LEAST, 3, rows)
        values = stored(code, FILE)
        self.assertEqual(self.check(code, values, ("a", "c", "b"))[1], Space(LEAST, 3, [(3, 0, 10006)]))
        self.assertEqual(self.check(code, values, ("c",))[1], Space(LEAST, 3, [(3, 0, 10006), (2, 10006, 0)]))
        self.assertEqual(self.check(code, values, ("a",))[1], Space.whole(LEAST, 3))

    def test_no_keepers(self):
        for values in ({}, VALUES):
            self.assertEqual(self.check(CODE, values, ())[1], Space.whole(LEAST, 3))

    def test_one_file(self):
        self.assertEqual(candidates(CODE, VALUES, "b", "c"), (FILE, Space(LEAST, 3)))
        self.assertEqual(candidates(values=VALUES, code=CODE)[1], Space.whole(LEAST, 3))

    def test_behind_mends(self):
        dice = luck(122)
        book = Book.alike("a", "b", "c", "d", keep=2, helpers=3)
        code = fresh(book, LEAST, 5)
        file = lucky_file(dice, code)
        for after in codes_behind(code, *lucky_falls(dice, book, 5)):
            values = letters_of(after, file)
            for lot in lots_in_order(book.names()):
                self.check(after, values, lot)

    def test_torn(self):
        for call in (candidates, recovered):
            for lot in (("b", "c"), ("c", "b"), ("a", "c", "b")):
                wrong = changed(VALUES, "c", 0)
                self.assertEqual(kinds(raised(self, Torn, call, CODE, wrong, *lot).lot), kinds(lot))
        self.assertEqual(recovered(CODE, wrong, "b", "a"), FILE)

    def test_torn_counts_ahead_of_unreadable(self):
        rows = {"c": [(1, 0, 0), (2, 0, 0)], "a": [(0, 0, 1)], "b": [(0, 0, 1)] * 3}
        code = Code(BOOK, LEAST, 3, rows)
        values = {"c": [1, 2], "a": [3], "b": [3, 3, 3]}
        self.assertEqual(raised(self, Unreadable, recovered, code, values, "a", "c").lot, ("a", "c"))
        self.assertEqual(raised(self, Torn, recovered, code, {**values, "c": [1, 3]}, "a", "c").lot, ("a", "c"))


class Recovered(unittest.TestCase):
    def test_lucky_files(self):
        dice = luck(131)
        verdicts = []
        for many in (1, 2, 3, 4, 5, 6, 7):
            code = lucky_code(dice, many, 3)
            file = lucky_file(dice, code)
            values = letters_of(code, file)
            for lot in lots_in_order(code.book.names()):
                lot = dice.sample(lot, len(lot))
                verdicts.append(sum(code.book.keep(name) for name in lot) >= code.size)
                if verdicts[-1]:
                    self.assertEqual(kinds(recovered(code, values, *lot)), kinds(file))
                else:
                    self.assertEqual(kinds(raised(self, Unreadable, recovered, code, values, *lot).lot),
                                     kinds(tuple(lot)))
        self.assertGreater(min(verdicts.count(True), verdicts.count(False)), 10)

    def test_no_keepers(self):
        self.assertEqual(kinds(raised(self, Unreadable, recovered, CODE, {}).lot), "tuple()")
        self.assertEqual(kinds(raised(self, Unreadable, recovered, values=VALUES, code=CODE).lot), "tuple()")

    def test_full_books(self):
        dice = luck(132)
        book = Book(*full_keepers(dice))
        code = fresh(book, GREATEST, 20)
        file = lucky_file(dice, code)
        values = stored(code, file)
        self.assertEqual(recovered(code, values, *book), file)
        name, at = lucky_falls(dice, book, 1)[0]
        wrong = changed(values, name, 0, 1, GREATEST)
        self.assertEqual(raised(self, Torn, recovered, code, wrong, *book).lot, tuple(book))

    def test_behind_mends(self):
        dice = luck(133)
        for _ in range(5):
            code = lucky_code(dice, 4)
            file = lucky_file(dice, code)
            for after in codes_behind(code, *lucky_falls(dice, code.book, 4)):
                values = letters_of(after, file)
                for lot in lots_in_order(code.book.names()):
                    if rank_of(code.modulus, rows_in(after, lot)) == code.size:
                        self.assertEqual(recovered(after, values, *lot), file)
                    else:
                        self.assertEqual(raised(self, Unreadable, recovered, after, values, *lot).lot, lot)


class WrongLetters(unittest.TestCase):
    """The errors of letters, which several functions share."""

    def test_errors_of_a_lot(self):
        for call in (agree, candidates, recovered):
            for values in (VALUES, {}, None):
                for name in (*NO_NAMES, "d"):
                    self.assertEqual(kinds(raised(self, UnknownName, call, CODE, values, name).name), kinds(name))
                    error = raised(self, UnknownName, call, CODE, values, "a", "a", name, "e")
                    self.assertEqual(kinds(error.name), kinds(name))
                self.assertEqual(raised(self, DuplicateName, call, CODE, values, "b", "a", "c", "a", "b").name, "a")

    def wrong(self, many):
        letters = [1] * many
        return [None, True, False, "", "1", "a", (), [], {}, {0: 1}, 0, many, letters[1:], [[(None, {"a": [1]})]], [*letters, 0], tuple(letters[1:]), "1" * many,
                {at: 1 for at in range(many)}, *[[*letters[:at], value, *letters[at + 1:]] for at in range(many)
                                                 for value in NO_LETTERS]]

    def check(self, call, *rest, names=("c", "a", "b")):
        """Whether wrong letters are refused, at each keeper and at the first one of several."""
        for name in names:
            for value in self.wrong(BOOK.keep(name)):
                error = raised(self, InvalidValues, call, CODE, {**VALUES, name: value}, *rest)
                self.assertEqual(error.name, name)
            missing = {other: VALUES[other] for other in VALUES if other != name}
            self.assertEqual(raised(self, InvalidValues, call, CODE, missing, *rest).name, name)
        for at in range(len(names)):
            later = {name: VALUES[name] if name in names[:at] else None for name in reversed(names)}
            self.assertEqual(raised(self, InvalidValues, call, CODE, later, *rest).name, names[at])
        for value in (None, True, 0, "", "abc", (), [], [("a", [1])], {}):
            self.assertEqual(raised(self, InvalidValues, call, CODE, value, *rest).name, names[0])

    def test_of_a_lot(self):
        for call in (agree, candidates, recovered):
            for lot in lots_in_order(("b", "c", "a"))[1:]:
                self.check(call, *lot, names=lot)

    def test_of_all_keepers(self):
        self.check(suspects)
        self.check(added, 0, 1)

    def test_only_the_lot_is_looked_at(self):
        values = {**VALUES, "c": None, "a": [LEAST]}
        self.assertIs(agree(CODE, values, "b"), True)
        self.assertEqual(recovered(CODE, values, "b"), FILE)
        self.assertEqual(candidates(CODE, {"b": VALUES["b"]}, "b"), (FILE, Space(LEAST, 3)))

    def test_further_keys(self):
        values = {"d": None, "": [1], "longername": {}, **VALUES}
        self.assertIs(agree(CODE, values, "c", "a", "b"), True)
        self.assertEqual(recovered(CODE, values, "c", "a"), FILE)
        self.assertEqual(suspects(CODE, values), [])
        self.assertEqual(kinds(added(CODE, values, 0, 0)), kinds(VALUES))
        self.assertEqual(list(mended(mend(CODE, "c"), values)), ["c", "a", "b"])

    def test_the_modulus_counts(self):
        code = fresh(BOOK, 10009, 3)
        values = {"c": [LEAST, 10008], "a": [0], "b": [0, 0, 0]}
        self.assertIs(agree(code, values, "c"), True)
        self.assertEqual(raised(self, InvalidValues, agree, CODE, values, "c").name, "c")

    def test_what_is_passed_stays(self):
        values = changed({**VALUES, "d": [1]}, "c", 0)
        before = kinds(values)
        agree(CODE, values, "c", "b")
        candidates(CODE, values, "b")
        recovered(CODE, values, "b")
        suspects(CODE, values)
        added(CODE, values, 1, 5)
        mended(mend(CODE, "c"), values)
        self.assertEqual(kinds(values), before)


class Suspects(unittest.TestCase):
    def plain(self, code, values):
        names = code.book.names()

        def fits(lot):
            rows = rows_in(code, lot)
            longer = [(*row, letter) for row, letter in zip(rows, [x for name in lot for x in values[name]])]
            return rank_of(code.modulus, rows) == rank_of(code.modulus, longer)

        return [] if fits(names) else [name for name in names if fits([other for other in names if other != name])]

    def test_letters_of_a_file(self):
        dice = luck(141)
        for many in range(1, 8):
            code = lucky_code(dice, many)
            self.assertEqual(kinds(suspects(code, letters_of(code, lucky_file(dice, code)))), "list()")
        self.assertEqual(suspects(values=VALUES, code=CODE), [])

    def test_one_keeper(self):
        book = Book.alike("c", "b", "a", "d", keep=2, helpers=3)
        code = fresh(book, LEAST, 3)
        values = letters_of(code, [1, 2, 3])
        for name in book:
            for at in range(2):
                for by in (1, 77, 10006):
                    self.assertEqual(kinds(suspects(code, changed(values, name, at, by))), kinds([name]))
            self.assertEqual(suspects(code, {**values, name: [0, 0]}), [name])

    def test_one_keeper_of_too_few(self):
        # Letters of each three keepers agree whatever they are, as four letters of a file may be any.
        book = Book.alike("c", "b", "a", "d", keep=2, helpers=3)
        code = fresh(book, LEAST, 6)
        values = letters_of(code, [1, 2, 3, 4, 5, 6])
        self.assertEqual(suspects(code, changed(values, "b", 1)), ["c", "b", "a", "d"])

    def test_two_keepers(self):
        book = Book.alike("c", "b", "a", "d", keep=2, helpers=3)
        code = fresh(book, LEAST, 2)
        values = changed(changed(letters_of(code, [1, 2]), "a", 0), "c", 1)
        self.assertEqual(kinds(suspects(code, values)), "list()")
        self.assertIs(agree(code, values, *book), False)

    def test_a_keeper_that_keeps_too_much(self):
        # The letters of b alone do not agree, so b is the only one without which the others agree.
        self.assertEqual(suspects(CODE, {**VALUES, "b": [0, 0, 1]}), ["b"])
        wide = Book(("c", 1, []), ("a", 6, []), ("b", 1, []))
        code = fresh(wide, LEAST, 2)
        values = letters_of(code, [4, 9])
        self.assertEqual(suspects(code, changed(values, "a", 5)), ["a"])
        self.assertEqual(suspects(code, changed(values, "c", 0)), ["c", "a"])

    def test_the_only_keeper(self):
        code = fresh(Book(("a", 3, [])), LEAST, 2)
        values = letters_of(code, [4, 9])
        self.assertEqual(suspects(code, values), [])
        self.assertEqual(suspects(code, changed(values, "a", 2)), ["a"])

    def test_lucky_letters(self):
        dice = luck(142)
        lengths = set()
        for _ in range(80):
            code = lucky_code(dice, dice.randint(1, 5))
            values = letters_of(code, lucky_file(dice, code))
            for name in dice.sample(code.book.names(), min(len(code.book), dice.randint(1, 2))):
                values = changed(values, name, dice.randrange(code.book.keep(name)), dice.randint(1, 9), code.modulus)
            found = self.plain(code, values)
            self.assertEqual(kinds(suspects(code, values)), kinds(found))
            lengths.add(len(found))
        self.assertTrue(lengths >= {0, 1, 2, 3})

    def test_behind_mends(self):
        dice = luck(143)
        book = Book.alike("a", "b", "c", "d", keep=3, helpers=3)
        code = fresh(book, LEAST, 4)
        file = lucky_file(dice, code)
        for after in codes_behind(code, *lucky_falls(dice, book, 6)):
            for name in book:
                values = changed(letters_of(after, file), name, 2)
                self.assertEqual(suspects(after, values), self.plain(after, values))


class Added(unittest.TestCase):
    NUMBERS = (0, 1, -1, 5, LEAST, -LEAST, LEAST - 1, 10 ** 30, -10 ** 30, 123456789012345678901234567890)

    def test_numbers(self):
        dice = luck(151)
        for many in (1, 3, 5):
            code = lucky_code(dice, many)
            file = lucky_file(dice, code)
            values = letters_of(code, file)
            for number in self.NUMBERS:
                at = dice.randrange(code.size)
                behind = list(file)
                behind[at] = (behind[at] + number) % code.modulus
                self.assertEqual(kinds(added(code, values, at, number)), kinds(letters_of(code, behind)))
                self.assertEqual(list(added(code, values, at, number)), code.book.names())

    def test_several(self):
        dice = luck(152)
        code = lucky_code(dice, 4)
        file = lucky_file(dice, code)
        values = letters_of(code, file)
        for _ in range(12):
            at, number = dice.randrange(code.size), dice.choice(self.NUMBERS)
            values = added(code, values, at, number)
            file[at] = (file[at] + number) % code.modulus
        self.assertEqual(kinds(values), kinds(letters_of(code, file)))

    def test_letters_of_no_file(self):
        torn = {"c": [1, 1], "a": [2], "b": [10006, 0, 5]}
        self.assertIs(agree(CODE, torn, "c", "a", "b"), False)
        more = letters_of(CODE, [0, 7, 0])
        self.assertEqual(added(CODE, torn, 1, 7), {name: [(a + b) % LEAST for a, b in zip(torn[name], more[name])]
                                                   for name in torn})

    def test_tuples_and_names(self):
        values = {name: tuple(letters) for name, letters in VALUES.items()}
        self.assertEqual(kinds(added(number=0, at=2, values=values, code=CODE)), kinds(VALUES))

    def test_wrong_indexes(self):
        for at in (*NO_NUMBERS, -1, 3, 4, 10 ** 30):
            for values in (VALUES, {}, None):
                self.assertEqual(kinds(raised(self, InvalidFile, added, CODE, values, at, 1).at), kinds(at))

    def test_new_lists(self):
        values = {name: list(letters) for name, letters in VALUES.items()}
        behind = added(CODE, values, 0, 0)
        behind["a"][0] = None
        behind["b"].clear()
        self.assertEqual(kinds(values), kinds(VALUES))


class Mended(unittest.TestCase):
    def test_letters_of_a_file(self):
        dice = luck(161)
        for many in (2, 3, 4, 5, 6):
            code = lucky_code(dice, many)
            file = lucky_file(dice, code)
            values = letters_of(code, file)
            for name, at in lucky_falls(dice, code.book, 4):
                paper = mend(code, name, at)
                values = mended(paper, values)
                code = paper.after()
                self.assertEqual(kinds(values), kinds(letters_of(code, file)))
                self.assertEqual(list(values), code.book.names())

    def test_letters_of_no_file(self):
        paper = mend(CODE, "c")
        torn = {"c": [1, 1], "a": [2], "b": [10006, 0, 5]}
        sent = [sum(x * y for x, y in zip(row, torn[helper])) % LEAST
                for helper in ("a", "b") for row in paper.sent()[helper]]
        kept = [sum(x * y for x, y in zip(row, sent)) % LEAST for row in paper.kept()]
        self.assertEqual(kinds(mended(paper, torn)), kinds({**torn, "c": kept}))

    def test_the_newcomer_is_not_looked_at(self):
        paper = mend(CODE, "c")
        right = mended(paper, VALUES)
        for value in (None, True, 0, "", (), [], [1], [1, 2], [LEAST, -1], {}, [[(None, {"a": [1]})]]):
            self.assertEqual(kinds(mended(paper, {**VALUES, "c": value})), kinds(right))
        self.assertEqual(kinds(mended(paper, {"b": VALUES["b"], "a": VALUES["a"]})), kinds(right))

    def test_wrong_letters(self):
        paper = mend(CODE, "a")
        for name, other in (("c", "b"), ("b", "c")):
            # Those that send nothing are looked at, too.
            for value in (None, [], VALUES[name][1:], [*VALUES[name], 0], [LEAST] * BOOK.keep(name)):
                self.assertEqual(raised(self, InvalidValues, mended, paper, {**VALUES, name: value}).name, name)
            self.assertEqual(raised(self, InvalidValues, mended, paper, {other: VALUES[other]}).name, name)
        self.assertEqual(raised(self, InvalidValues, mended, paper, {}).name, "c")
        self.assertEqual(raised(self, InvalidValues, mended, paper, None).name, "c")

    def test_tuples_names_and_new_lists(self):
        paper = mend(CODE, "c")
        values = {name: tuple(letters) for name, letters in VALUES.items()}
        self.assertEqual(kinds(mended(values=values, mend=paper)), kinds(mended(paper, VALUES)))
        lists = {name: list(letters) for name, letters in VALUES.items()}
        mended(paper, lists)["b"].clear()
        self.assertEqual(kinds(lists), kinds(VALUES))

    def test_newcomers(self):
        paper = admission(CODE, "d", 2, {"b": 2, "a": 1})
        values = mended(paper, VALUES)
        self.assertEqual(kinds(values), kinds(letters_of(paper.after(), FILE)))
        self.assertEqual(list(values), ["c", "a", "b", "d"])
        self.assertEqual(kinds(mended(paper, {**VALUES, "d": None})), kinds(values))
        self.assertEqual(raised(self, InvalidValues, mended, paper, {**VALUES, "a": []}).name, "a")

    def test_mends_that_do_not_hold(self):
        paper = mend(CODE, "c")
        zeros = paper.__class__(CODE, "c", 0, paper.sent(), [[0, 0, 0], [1, 0, 0]])
        self.assertIs(zeros.holds(), False)
        self.assertEqual(kinds(mended(zeros, VALUES)), kinds(letters_of(zeros.after(), FILE)))

    def test_codes_of_all_kinds(self):
        dice = luck(162)
        for _ in range(10):
            book = Book(*lucky_keepers(dice, 4, 2, 3))
            code = Code(book, LEAST, 3, lucky_rows(dice, book, LEAST, 3)) if book.kept_by_all() > 2 else CODE
            if code.is_sound():
                file = lucky_file(dice, code)
                for name, at in lucky_falls(dice, code.book, 1):
                    paper = mend(code, name, at)
                    self.assertEqual(mended(paper, letters_of(code, file)), letters_of(paper.after(), file))


class Within(unittest.TestCase):
    def test_a_lot_reads_if_its_vectors_make_all(self):
        dice = luck(171)
        code = lucky_code(dice, 5)
        for lot in lots_in_order(code.book.names()):
            whole = all(is_within(code.modulus, [int(at == here) for here in range(code.size)], rows_in(code, lot))
                        for at in range(code.size)) if lot else False
            self.assertEqual(code.rank(*lot) == code.size, whole)


if __name__ == "__main__":
    unittest.main()
