import unittest

from mendworth.books import Book
from mendworth.errors import InvalidFalls
from mendworth.papers import Floor, Paper, StepFloor, floor
from mendworth.worths import worths
from tests.helper import brings, full_keepers, kinds, lots_in_order, luck, lucky_keepers, raised

KEEPERS = (("c", 5, [{"a": 1, "b": 2}, {"b": 1}]), ("a", 2, [{"b": 6}]), ("b", 3, []))
BOOK = Book(*KEEPERS)

ANY_VALUES = (None, True, False, 0, 1, -1, 10 ** 30, "", "floor", (), ("a",), [], ["a"], {}, {"a": 1}, {(): 0}, {"": 0},
              [((), 0)], [[(None, {"a": [1]})]], {(): {(): 0}}, {None: 0}, {0: 0}, {("a", "b"): [1]})
NO_NUMBERS = (None, True, False, -1, -10 ** 30, "", "0", "1", (), (0,), [], [0], {}, {0: 0})


def is_plain_floor(keepers, table):
    """Whether a table of numbers for all lots is a floor, as the document tells it."""
    return table[()] == 0 and rises(table) and follows(keepers, table, table)


def is_plain_step_floor(keepers, tables):
    """Whether tables of numbers for all lots are a step floor, as the document tells it."""
    keeps = {name: keep for name, keep, _ in keepers}
    return (all(rises(table) for table in tables)
            and all(tables[0][lot] <= sum(map(keeps.get, lot)) for lot in tables[0])
            and all(table[lot] <= before[lot] for before, table in zip(tables, tables[1:]) for lot in table)
            and all(follows(keepers, table, before) for before, table in zip(tables, tables[1:])))


def lots_less_one(lot):
    """The keepers of a lot, each with the lot without it."""
    return [(lot[at], lot[:at] + lot[at + 1:]) for at in range(len(lot))]


def rises(table):
    return all(table[less] <= table[lot] for lot in table for _, less in lots_less_one(lot))


def follows(keepers, table, before):
    return all(table[lot] <= before[less] + brings(keepers, name, less)
               for lot in table for name, less in lots_less_one(lot))


def tables_of(book, most):
    return [worths(book, falls=falls) for falls in range(most + 1)]


def changed(table, lot, number):
    return {**table, lot: number}


class Told(unittest.TestCase):
    def test_floor(self):
        paper = Floor(BOOK, worths(BOOK))
        self.assertEqual([Floor.KIND, paper.KIND, paper.told(), repr(paper), str(paper)],
                         ["floor", "floor", "floor", "Paper(floor)", "Paper(floor)"])
        self.assertEqual(kinds(paper.table()), kinds(worths(BOOK)))
        self.assertEqual(paper.book, BOOK)
        self.assertIs(paper.holds(), True)
        self.assertEqual(Floor.__bases__, (Paper,))

    def test_step_floor(self):
        for most in range(12):
            tables = [worths(BOOK, falls=min(falls, 9)) for falls in range(most + 1)]
            paper = StepFloor(BOOK, tables)
            self.assertEqual([StepFloor.KIND, paper.KIND, paper.told(), repr(paper), paper.most],
                             ["step floor", "step floor", f"step floor {most}", f"Paper(step floor {most})", most])
            self.assertEqual(kinds(paper.table()), kinds(tables))
            self.assertEqual(paper.book, BOOK)
            self.assertIs(paper.holds(), True)
        self.assertEqual(StepFloor.__bases__, (Floor,))
        self.assertIsInstance(paper, Paper)

    def test_by_name(self):
        self.assertIs(Floor(table=worths(BOOK), book=BOOK).holds(), True)
        self.assertIs(StepFloor(tables=[worths(BOOK, falls=0)], book=BOOK).holds(), True)

    def test_any_values_are_told(self):
        for value in ANY_VALUES:
            paper = Floor(BOOK, value)
            self.assertEqual(kinds([paper.table(), paper.told(), repr(paper)]), kinds([value, "floor", "Paper(floor)"]))
            paper = StepFloor(BOOK, value)
            most = len(value) - 1 if isinstance(value, (list, tuple)) else -1
            self.assertEqual(kinds([paper.table(), paper.most, paper.told(), repr(paper)]),
                             kinds([value, most, f"step floor {most}", f"Paper(step floor {most})"]))

    def test_properties_cannot_be_assigned(self):
        with self.assertRaises(AttributeError):
            StepFloor(BOOK, []).most = 1
        with self.assertRaises(AttributeError):
            Floor(BOOK, {}).book = BOOK


class Copies(unittest.TestCase):
    def test_changes_of_what_was_passed(self):
        table = worths(BOOK)
        paper = Floor(BOOK, table)
        table[("a",)] = 100
        self.assertEqual([paper.table(), paper.holds()], [worths(BOOK), True])
        tables = tables_of(BOOK, 3)
        paper = StepFloor(BOOK, tables)
        tables[0][("a",)] = 100
        tables[3].clear()
        tables.append(None)
        self.assertEqual([paper.table(), paper.holds(), paper.most], [tables_of(BOOK, 3), True, 3])

    def test_changes_of_what_was_returned(self):
        paper = Floor(BOOK, worths(BOOK))
        paper.table()[("a",)] = 100
        paper.table().clear()
        self.assertEqual([paper.table(), paper.holds()], [worths(BOOK), True])
        paper = StepFloor(BOOK, tables_of(BOOK, 3))
        paper.table()[0][("a",)] = 100
        paper.table().pop()
        self.assertEqual([paper.table(), paper.holds(), paper.most], [tables_of(BOOK, 3), True, 3])
        self.assertIsNot(paper.table(), paper.table())
        self.assertIsNot(paper.table()[0], paper.table()[0])

    def test_at_any_depth(self):
        for make in (Floor, StepFloor):
            value = [{"a": [1, ({"b": []},)]}]
            paper = make(BOOK, value)
            value[0]["a"][1][0]["b"].append(1)
            paper.table()[0]["a"][1][0]["b"].append(1)
            self.assertEqual(kinds(paper.table()), kinds([{"a": [1, ({"b": []},)]}]))

    def test_what_was_passed_stays(self):
        tables = tables_of(BOOK, 3)
        StepFloor(BOOK, tables).holds()
        Floor(BOOK, tables[0]).holds()
        self.assertEqual(tables, tables_of(BOOK, 3))

    def test_tuples_stay_tuples(self):
        tables = tuple(tables_of(BOOK, 2))
        paper = StepFloor(BOOK, tables)
        self.assertEqual(kinds(paper.table()), kinds(tables))
        self.assertEqual([paper.most, paper.holds()], [2, True])
        self.assertEqual(kinds(Floor(BOOK, ((), [()])).table()), kinds(((), [()])))


class NoTables(unittest.TestCase):
    """What is no table for a floor, and no table of a step floor at any place."""

    def check(self, value):
        self.assertIs(Floor(BOOK, value).holds(), False, value)
        for at in range(3):
            tables = tables_of(BOOK, 2)
            tables[at] = value
            self.assertIs(StepFloor(BOOK, tables).holds(), False, value)
            self.assertIs(StepFloor(BOOK, [*tables_of(BOOK, 2)[:at], value]).holds(), False, value)
        self.assertIs(StepFloor(BOOK, [value]).holds(), False, value)

    def test_any_values(self):
        for value in ANY_VALUES:
            self.check(value)
            self.assertIs(StepFloor(BOOK, value).holds(), False, value)

    def test_lists_and_tables_in_the_place_of_each_other(self):
        self.assertIs(Floor(BOOK, [worths(BOOK)]).holds(), False)
        self.assertIs(Floor(BOOK, (worths(BOOK),)).holds(), False)
        self.assertIs(Floor(BOOK, sorted(worths(BOOK).items())).holds(), False)
        self.assertIs(StepFloor(BOOK, worths(BOOK, falls=0)).holds(), False)
        self.assertIs(StepFloor(BOOK, dict(enumerate(tables_of(BOOK, 2)))).holds(), False)
        self.assertIs(StepFloor(BOOK, [tables_of(BOOK, 0)]).holds(), False)

    def test_no_tables(self):
        self.assertIs(StepFloor(BOOK, []).holds(), False)
        self.assertIs(StepFloor(BOOK, ()).holds(), False)

    def zeros(self):
        return {lot: 0 for lot in lots_in_order(BOOK.names())}

    def test_a_lot_missing(self):
        for table in (self.zeros(), worths(BOOK)):
            for lot in table:
                self.check({other: number for other, number in table.items() if other != lot})

    def test_a_further_key(self):
        for key in (None, True, 0, "", "a", "ca", ("e",), ("a", "c"), ("a", "a"), ("c", "a", "b", "c"), ((),),
                    (("a",),)):
            self.check({**self.zeros(), key: 0})

    def test_another_key_in_the_place_of_a_lot(self):
        for lot in lots_in_order(BOOK.names()):
            for key in (None, 0, "".join(lot), ("e",), (lot,), lot + ("e",), lot[::-1] + lot[:1]):
                if key != lot:
                    self.check({key if other == lot else other: 0 for other in lots_in_order(BOOK.names())})
        self.check({tuple(sorted(lot)): 0 for lot in lots_in_order(BOOK.names())})

    def test_values_that_are_no_numbers_of_0_or_more(self):
        for lot in lots_in_order(BOOK.names()):
            for value in NO_NUMBERS:
                self.check(changed(self.zeros(), lot, value))
                self.check(changed(worths(BOOK), lot, value))


class Floors(unittest.TestCase):
    def check(self, keepers, table, wanted):
        self.assertEqual(is_plain_floor(keepers, table), wanted)
        self.assertIs(Floor(Book(*keepers), table).holds(), wanted)

    def test_the_worths_and_zeros(self):
        dice = luck(1)
        for many in range(1, 8):
            keepers = lucky_keepers(dice, many, 5)
            self.check(keepers, worths(Book(*keepers)), True)
            self.check(keepers, dict.fromkeys(worths(Book(*keepers)), 0), True)

    def test_the_empty_lot(self):
        self.check(KEEPERS, changed(worths(BOOK), (), 1), False)
        for table in (dict.fromkeys(worths(BOOK), 1), {lot: number + 1 for lot, number in worths(BOOK).items()}):
            self.check(KEEPERS, table, False)

    def test_numbers_raised(self):
        dice = luck(2)
        for many in range(1, 7):
            keepers = lucky_keepers(dice, many, 4)
            table = worths(Book(*keepers))
            for lot in table:
                for more in (1, 2, 10 ** 30):
                    self.check(keepers, changed(table, lot, table[lot] + more), False)

    def test_numbers_lowered(self):
        dice = luck(3)
        seen = set()
        for many in (1, 2, 3, 4, 5):
            keepers = lucky_keepers(dice, many, 2)
            table = worths(Book(*keepers))
            for lot in table:
                for less in range(1, min(4, table[lot]) + 1):
                    other = changed(table, lot, table[lot] - less)
                    seen.add(is_plain_floor(keepers, other))
                    self.check(keepers, other, is_plain_floor(keepers, other))
        self.assertEqual(seen, {True, False})

    def test_each_rule_by_itself(self):
        keepers = (("a", 3, [{"b": 2}]), ("b", 4, []))
        self.check(keepers, {(): 0, ("a",): 2, ("b",): 4, ("a", "b"): 4}, True)
        self.check(keepers, {(): 0, ("a",): 3, ("b",): 4, ("a", "b"): 4}, False)
        self.check(keepers, {(): 0, ("a",): 2, ("b",): 5, ("a", "b"): 5}, False)
        self.check(keepers, {(): 0, ("a",): 2, ("b",): 4, ("a", "b"): 5}, False)
        self.check(keepers, {(): 0, ("a",): 2, ("b",): 4, ("a", "b"): 3}, False)
        self.check(keepers, {(): 0, ("a",): 2, ("b",): 0, ("a", "b"): 1}, False)
        self.check(keepers, {(): 0, ("a",): 0, ("b",): 3, ("a", "b"): 3}, True)
        self.check(keepers, {(): 0, ("a",): 1, ("b",): 0, ("a", "b"): 1}, False)
        self.check((("a", 3, []), ("b", 4, [])), {(): 0, ("a",): 3, ("b",): 4, ("a", "b"): 7}, True)
        self.check((("a", 3, []), ("b", 4, [])), {(): 0, ("a",): 3, ("b",): 4, ("a", "b"): 8}, False)
        self.check((("a", 3, []), ("b", 4, [])), {(): 0, ("a",): 3, ("b",): 2, ("a", "b"): 6}, False)

    def test_random_tables(self):
        dice = luck(4)
        seen = set()
        for many in (1, 2, 3):
            for _ in range(300):
                keepers = lucky_keepers(dice, many, 2, 2)
                table = {lot: len(lot) and dice.randint(0, 2) for lot in lots_in_order([row[0] for row in keepers])}
                seen.add(is_plain_floor(keepers, table))
                self.check(keepers, table, is_plain_floor(keepers, table))
        self.assertEqual(seen, {True, False})

    def test_no_floor_is_greater_than_the_worths(self):
        keepers = (("a", 2, [{"b": 1}]), ("b", 2, [{"c": 1}]), ("c", 1, []))
        table = worths(Book(*keepers))
        lots = list(table)
        tables = [()]
        for _ in lots:
            tables = [(*row, number) for row in tables for number in range(3)]
        holding = [row for row in tables if Floor(Book(*keepers), dict(zip(lots, row))).holds()]
        self.assertTrue(all(number <= table[lot] for row in holding for lot, number in zip(lots, row)))
        self.assertIn(tuple(table.values()), holding)
        self.assertGreater(len(holding), 1)


class StepFloors(unittest.TestCase):
    def check(self, keepers, tables, wanted):
        self.assertEqual(is_plain_step_floor(keepers, tables), wanted)
        self.assertIs(StepFloor(Book(*keepers), tables).holds(), wanted)
        self.assertIs(StepFloor(Book(*keepers), tuple(tables)).holds(), wanted)

    def test_the_worths_and_zeros(self):
        dice = luck(5)
        for many in range(1, 8):
            keepers = lucky_keepers(dice, many, 5)
            for most in (0, 1, 4, 9):
                tables = tables_of(Book(*keepers), most)
                self.check(keepers, tables, True)
                self.check(keepers, [dict.fromkeys(table, 0) for table in tables], True)

    def test_numbers_raised(self):
        dice = luck(6)
        for many in (1, 2, 3, 4):
            keepers = lucky_keepers(dice, many, 3)
            tables = tables_of(Book(*keepers), 3)
            for at, table in enumerate(tables):
                for lot in table:
                    for more in (1, 10 ** 30):
                        other = changed(table, lot, table[lot] + more)
                        self.check(keepers, [*tables[:at], other, *tables[at + 1:]], False)

    def test_numbers_lowered(self):
        dice = luck(7)
        seen = set()
        for many in (1, 2, 3, 4):
            keepers = lucky_keepers(dice, many, 2)
            tables = tables_of(Book(*keepers), 2)
            for at, table in enumerate(tables):
                for lot in table:
                    for less in range(1, min(4, table[lot]) + 1):
                        others = [*tables[:at], changed(table, lot, table[lot] - less), *tables[at + 1:]]
                        seen.add((at, is_plain_step_floor(keepers, others)))
                        self.check(keepers, others, is_plain_step_floor(keepers, others))
        self.assertEqual(seen, {(at, wanted) for at in range(3) for wanted in (True, False)})

    def test_tables_in_another_order(self):
        chain = (("a", 2, [{"b": 1}]), ("b", 3, [{"c": 1}]), ("c", 3, []))
        tables = tables_of(Book(*chain), 2)
        self.check(chain, tables, True)
        self.check(chain, tables[1:], True)
        self.check(chain, [tables[1], tables[0]], False)
        self.check(chain, [tables[0], tables[2]], True)
        self.check(chain, [tables[2]] * 3, True)
        self.check(chain, [tables[0]] * 2, False)

    def test_each_rule_by_itself(self):
        keepers = (("a", 3, [{"b": 2}]), ("b", 4, []))
        keeps = {(): 0, ("a",): 3, ("b",): 4, ("a", "b"): 7}
        self.check(keepers, [keeps], True)
        self.check(keepers, [changed(keeps, (), 1)], False)
        self.check(keepers, [changed(keeps, ("a",), 4)], False)
        self.check(keepers, [changed(keeps, ("a", "b"), 8)], False)
        self.check(keepers, [changed(keeps, ("a", "b"), 3)], False)
        self.check(keepers, [changed(keeps, ("a",), 0)], True)
        once = {(): 0, ("a",): 2, ("b",): 4, ("a", "b"): 4}
        self.check(keepers, [keeps, once], True)
        self.check(keepers, [keeps, changed(once, ("a",), 3)], False)
        self.check(keepers, [keeps, changed(once, ("a", "b"), 5)], False)
        self.check(keepers, [keeps, changed(once, ("a", "b"), 3)], False)
        self.check(keepers, [keeps, changed(once, (), 1)], False)
        self.check(keepers, [changed(keeps, ("a",), 1), once], False)
        self.check(keepers, [changed(keeps, ("a",), 1), changed(once, ("a",), 1)], True)
        self.check(keepers, [keeps, once, once], True)
        self.check(keepers, [keeps, changed(once, ("a",), 1), once], False)

    def test_random_tables(self):
        dice = luck(8)
        seen = set()
        for many in (1, 2):
            for _ in range(600):
                keepers = lucky_keepers(dice, many, 2, 2)
                lots = lots_in_order([row[0] for row in keepers])
                tables = [{lot: len(lot) and dice.randint(0, 2) for lot in lots} for _ in range(dice.randint(1, 2))]
                seen.add((len(tables), is_plain_step_floor(keepers, tables)))
                self.check(keepers, tables, is_plain_step_floor(keepers, tables))
        self.assertEqual(len(seen), 4)


class Made(unittest.TestCase):
    def check(self, book, falls):
        paper = floor(book, falls=falls)
        self.assertIs(paper.__class__, StepFloor)
        self.assertEqual(kinds(paper.table()), kinds(tables_of(book, falls)))
        self.assertEqual([paper.most, paper.told(), paper.book], [falls, f"step floor {falls}", book])
        self.assertIs(paper.holds(), True)

    def test_floors(self):
        dice = luck(9)
        for many in range(1, 8):
            book = Book(*lucky_keepers(dice, many, 5))
            for paper in (floor(book), floor(book, falls=None), floor(book=book)):
                self.assertIs(paper.__class__, Floor)
                self.assertEqual(kinds(paper.table()), kinds(worths(book)))
                self.assertEqual(paper.book, book)
                self.assertIs(paper.holds(), True)

    def test_step_floors(self):
        dice = luck(10)
        for many in range(1, 8):
            book = Book(*lucky_keepers(dice, many, 5))
            for falls in range(10):
                self.check(book, falls)

    def test_the_greatest_books(self):
        book = Book(*full_keepers(luck(11)))
        self.assertEqual([floor(book).table(), floor(book).holds()], [worths(book), True])
        for falls in (0, 2, 9):
            self.check(book, falls)

    def test_papers_of_another_book(self):
        chain = Book(("a", 1, [{"b": 1}]), ("b", 3, [{"c": 1}]), ("c", 3, []))
        lesser = chain.with_keep("c", 2)
        self.assertIs(Floor(lesser, floor(chain).table()).holds(), False)
        self.assertIs(Floor(chain, floor(lesser).table()).holds(), True)

    def test_falls_refused(self):
        for value in (True, False, -1, 10, -10 ** 30, 10 ** 30, "", "0", "None", (), (1,), [], [None], {}, {0: 1},
                      [[(None, {"a": [1]})]]):
            self.assertEqual(kinds(raised(self, InvalidFalls, floor, BOOK, falls=value).given), kinds(value))


if __name__ == "__main__":
    unittest.main()
