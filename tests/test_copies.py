import unittest

from mendworth.books import Book
from mendworth.codes import Code, fresh
from mendworth.compare import helpful, needless_calls, trimmed
from mendworth.desk import Desk
from mendworth.files import added, agree, candidates, mended, recovered, stored, suspects
from mendworth.mends import Mend, admission, codes_behind, mend
from mendworth.pages import read_page, write_page
from mendworth.papers import Bound, Floor, StepFloor, bound, floor
from mendworth.spaces import Space, combination
from mendworth.vault import Vault
from mendworth.worths import longest_file, readers, worths
from tests.helper import LEAST, code_told, held_by, kinds, told_by

KEEPERS = [("c", 2, [{"b": 2, "a": 1}, {"b": 1}]), ("a", 1, [{"b": 1}]), ("b", 3, [])]
BOOK = Book(*KEEPERS)
ROWS = {"c": [[1, 2, 3], [4, 5, 6]], "a": [[7, 8, 10]], "b": [[1, 0, 0], [0, 1, 0], [0, 0, 1]]}
CODE = Code(BOOK, LEAST, 3, ROWS)
FILE = [5, 0, 10006]
VALUES = {name: list(letters) for name, letters in stored(CODE, FILE).items()}
MEND = mend(CODE, "c")
TABLES = [worths(BOOK, falls=falls) for falls in range(3)]


def with_tuples(value):
    """The same value with tuples in the place of all lists."""
    if isinstance(value, (list, tuple)):
        return tuple(with_tuples(item) for item in value)
    if isinstance(value, dict):
        return {key: with_tuples(value[key]) for key in value}
    return value


def with_new_lists(value):
    """The same value with lists and dicts of its own."""
    if isinstance(value, (list, tuple)):
        return value.__class__(with_new_lists(item) for item in value)
    if isinstance(value, dict):
        return {key: with_new_lists(value[key]) for key in value}
    return value


def overturn(value):
    """Changes all lists and dicts in a value, at any depth."""
    for item in value.values() if isinstance(value, dict) else value:
        if isinstance(item, (list, tuple, dict)):
            overturn(item)
    if isinstance(value, dict):
        value.clear()
        value["z"] = None
    elif isinstance(value, list):
        value.clear()
        value.append(None)


def paper_told(paper):
    return [paper.told(), paper.holds()]


# Each one passes lists and dicts and tells all that comes of it.
CALLS = [
    (lambda rows: Space(LEAST, 3, rows).basis(), [[1, 2, 3], [2, 4, 7]]),
    (lambda row: [Space(LEAST, 3, [(1, 2, 3)]).reduced(row), row in Space(LEAST, 3)], [4, 5, 6]),
    (lambda rows, row: combination(LEAST, rows, row), [[1, 2], [3, 5]], [7, 8]),
    (lambda calls: Book(("c", 2, calls), *KEEPERS[1:]).text(), [{"b": 2, "a": 1}, {"b": 1}]),
    (lambda call: BOOK.with_keeper("d", 2, call).text(), {"a": 2}),
    (lambda call: BOOK.with_call("b", call).text(), {"a": 2}),
    (lambda one, other: longest_file(BOOK, one, other), ["a", "b"], ["b", "c"]),
    (lambda falls: [paper_told(Bound(BOOK, ("a",), ("c", "a"), falls)),
                    Bound(BOOK, ("a",), ("c", "a"), falls).letters()], [("c", 1), ("a", 0)]),
    (lambda table: paper_told(Floor(BOOK, table)), worths(BOOK)),
    (lambda tables: paper_told(StepFloor(BOOK, tables)), TABLES),
    (lambda rows: code_told(Code(BOOK, LEAST, 3, rows)), ROWS),
    (lambda sent, kept: [paper_told(Mend(CODE, "c", 0, sent, kept)), Mend(CODE, "c", 0, sent, kept).messages(),
                         code_told(Mend(CODE, "c", 0, sent, kept).after())], MEND.sent(), MEND.kept()),
    (lambda call, other: code_told(admission(CODE, "d", 2, call, other).after()), {"b": 2, "a": 1}, {"a": 1}),
    (lambda file: stored(CODE, file), FILE),
    (lambda values: [agree(CODE, values, "c", "b"), recovered(CODE, values, "b"), suspects(CODE, values)], VALUES),
    (lambda values: [candidates(CODE, values, "c")[0], candidates(CODE, values, "c")[1].basis()], VALUES),
    (lambda values: added(CODE, values, 2, -7), VALUES),
    (lambda values: mended(MEND, values), VALUES),
    (lambda file: held_by(vault_behind(("put", file))), FILE),
    (lambda call: held_by(vault_behind(("put", FILE), ("admit", "d", 1, call))), {"b": 1, "a": 1}),
    (lambda call: held_by(vault_behind(("put", FILE), ("allow", "b", call))), {"a": 1, "c": 2}),
]


def vault_behind(*deeds):
    vault = Vault(BOOK, LEAST)
    vault.apply(*deeds)
    return vault


def objects():
    """Pairs of an object that keeps what it is given and what tells all of it; and what it is given."""
    return [
        (lambda rows: Space(LEAST, 3, rows), lambda space: space.basis(), [[1, 2, 3], [2, 4, 7]]),
        (lambda calls: Book(("c", 2, calls), *KEEPERS[1:]), lambda book: book.keepers(), [{"b": 2, "a": 1}, {"b": 1}]),
        (lambda call: BOOK.with_keeper("d", 2, call), lambda book: book.keepers(), {"a": 2}),
        (lambda call: BOOK.with_call("b", call), lambda book: book.keepers(), {"a": 2}),
        (lambda falls: Bound(BOOK, ("a",), ("c", "a"), falls), lambda paper: [paper.falls(), paper.letters()],
         [("c", 1), ("a", 0)]),
        (lambda table: Floor(BOOK, table), lambda paper: [paper.table(), paper.holds()], worths(BOOK)),
        (lambda tables: StepFloor(BOOK, tables), lambda paper: [paper.table(), paper.most, paper.holds()], TABLES),
        (lambda rows: Code(BOOK, LEAST, 3, rows), code_told, ROWS),
        (lambda both: Mend(CODE, "c", 0, *both),
         lambda paper: [paper.sent(), paper.kept(), paper.messages(), code_told(paper.after())],
         [MEND.sent(), MEND.kept()]),
        (lambda call: admission(CODE, "d", 2, call), lambda paper: [paper.book.keepers(), code_told(paper.after())],
         {"b": 2, "a": 1}),
        (lambda file: vault_behind(("put", file)), told_by, FILE),
        (lambda call: vault_behind(("put", FILE), ("allow", "b", call)), told_by, {"a": 1, "c": 2}),
        (lambda call: vault_behind(("put", FILE), ("admit", "d", 1, call)), told_by, {"a": 1, "c": 2}),
    ]


class Passed(unittest.TestCase):
    def test_tuples_are_taken_for_lists(self):
        for call, *values in CALLS:
            self.assertEqual(kinds(call(*with_tuples(values))), kinds(call(*with_new_lists(values))))

    def test_arguments_stay(self):
        for call, *values in CALLS:
            before = kinds(values)
            call(*values)
            self.assertEqual(kinds(values), before)

    def test_what_was_passed_may_be_changed(self):
        for make, tell, value in objects():
            given = with_new_lists(value)
            made = make(given)
            before = kinds(tell(made))
            overturn(given)
            self.assertNotEqual(kinds(given), kinds(value))
            self.assertEqual(kinds(tell(made)), before)


class Returned(unittest.TestCase):
    def asks(self):
        space = Space(LEAST, 3, [(1, 2, 3), (0, 1, 0)])
        paper, papers = bound(BOOK, "c", "a"), [floor(BOOK), floor(BOOK, falls=3)]
        code = fresh(BOOK, LEAST, 3)
        newcomer = admission(code, "d", 2, {"b": 1})
        vault = vault_behind(("put", FILE), ("mend", "c", 0), ("spoil", "b", 1, 3))
        vault.worth("a")
        vault.worth("b", "c")
        desk = Desk(vault.twin())
        desk("keepers")
        yield from (
            space.basis, lambda: list(space), lambda: space.reduced((1, 5, 6)),
            lambda: combination(LEAST, [(1, 2), (3, 4)], (5, 6)), BOOK.names, lambda: list(BOOK), BOOK.keepers,
            lambda: BOOK.calls("c"), lambda: BOOK.call("c"), lambda: worths(BOOK), lambda: worths(BOOK, falls=1),
            lambda: list(readers(BOOK, 2)), paper.falls, papers[0].table, papers[1].table, code.table,
            lambda: code.vectors("b"), lambda: code.space("a", "b").basis(), MEND.sent, MEND.kept, MEND.messages,
            lambda: MEND.after().table(), newcomer.sent, newcomer.kept, newcomer.messages,
            lambda: newcomer.before.table(), lambda: [told.table() for told in codes_behind(code, ("a", 0), ("c", 1))],
            lambda: stored(code, FILE), lambda: candidates(CODE, VALUES, "c")[0], lambda: recovered(CODE, VALUES, "b"),
            lambda: suspects(CODE, {**VALUES, "a": [1]}), lambda: added(CODE, VALUES, 0, 1),
            lambda: mended(MEND, VALUES), lambda: needless_calls(BOOK), lambda: helpful(BOOK, "c", "b"),
            lambda: trimmed(BOOK).keepers(), lambda: vault.letters("b"), vault.suspects, vault.kept,
            lambda: vault.fetch("c", "a"), lambda: vault.present.table(), lambda: vault.book.keepers(),
            lambda: [vault.history(), write_page(vault), told_by(vault)], desk.log,
            lambda: read_page(write_page(vault)).letters("a"))

    def test_what_was_returned_may_be_changed(self):
        for ask in self.asks():
            told = ask()
            before = kinds(told)
            overturn(told)
            self.assertEqual(kinds(ask()), before)

    def test_equal_calls_return_equal_results(self):
        for one, other in zip(self.asks(), self.asks()):
            self.assertEqual(repr(one()), repr(other()))


if __name__ == "__main__":
    unittest.main()
