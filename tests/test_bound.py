import unittest

from mendworth.books import Book
from mendworth.errors import DuplicateName, InvalidFalls, UnknownName
from mendworth.papers import Bound, Paper, bound
from mendworth.worths import worths
from tests.helper import NO_NAMES, full_keepers, kinds, lots_in_order, luck, lucky_keepers, raised, sameness

KEEPERS = (("c", 5, [{"a": 1, "b": 2}, {"b": 1, "d": 3}]), ("a", 2, [{"b": 6}]), ("b", 3, []), ("d", 6, [{"c": 1}]))
BOOK = Book(*KEEPERS)

# A value of each kind that is neither a lot as told nor a list of falls, whichever book is asked.
ANY_VALUES = (None, True, False, 0, 1, -1, 10 ** 30, "", "a", "ca", {}, {"a": 1}, {("a", 0): 1}, [None], [[]], ((),),
              (None,), ("a", None), (("c", 0), None), [[(None, {"a": [1]})]])
NO_LOTS = (*ANY_VALUES, [], ["c"], ["c", "a"], ("e",), ("c", "e"), ("a", "c"), ("c", "c"), ("c", "a", "a"),
           ("c", "b", "a"), ("d", "c"), ("c", ["a"]), (("c",),), (("c", "a"),), ("C",), ("",), ("ca",), (0,), (True,),
           ("c", 1), ("c", "a", "b", "d", "c"), ("c", "a", "b", "d", "e"), ("c", {}))
NO_FALLS_OF_ALL = (*ANY_VALUES, "c0", [("e", 0)], [("c", 2)], [("c", -1)], [("c", True)], [("c", False)], [("c", None)],
                   [("c", "0")], [("c", (0,))], [("c", [0])], [("c", {})], [("c",)], [("c", 0, 0)], [["c", 0]],
                   [("b", 0)], ["c"], ["c0"], [("c", 0), ("c", 0)], [("c", 0), ("c", 1)],
                   [("a", 0), ("c", 0), ("a", 0)], [("a", 1)], [("c", 0), ("a", 1)],
                   [("c", 0), ["a", 0]], [(["c"], 0)], [(("c",), 0)], [(None, 0)], [("", 0)], [({}, 0)],
                   [("c", 10 ** 30)], [("c", 0), None], [()], ("c", 0), [True], {"c": 0}, [{"c": 0}])


def plain_letters(keepers, group, history):
    """What the keepers of a group bring behind a history, as the document tells it."""
    rows = {name: (keep, calls) for name, keep, calls in keepers}
    ahead = [name for name in group if name not in [name for name, _ in history]]
    total = sum(rows[name][0] for name in ahead)
    for name, at in history:
        keep, calls = rows[name]
        total += min(keep, sum(letters for helper, letters in calls[at].items() if helper not in ahead))
        ahead.append(name)
    return total


class Papers(unittest.TestCase):
    def test_open(self):
        paper = Paper(BOOK)
        self.assertEqual([Paper.KIND, paper.KIND, paper.told(), repr(paper)], ["open", "open", "open", "Paper(open)"])
        self.assertIs(paper.holds(), False)
        self.assertEqual(paper.book, BOOK)
        self.assertEqual(Paper(book=BOOK).book, BOOK)
        with self.assertRaises(AttributeError):
            paper.book = BOOK

    def test_a_bound_is_a_paper(self):
        self.assertEqual(Bound.__bases__, (Paper,))
        self.assertIsInstance(bound(BOOK, "a"), Paper)


class Told(unittest.TestCase):
    def setUp(self):
        self.bound = Bound(BOOK, ("a",), ("c", "a", "d"), [("d", 0), ("c", 1)])

    def test_as_told(self):
        paper = self.bound
        self.assertEqual(kinds([paper.few, paper.group, paper.falls()]),
                         kinds([("a",), ("c", "a", "d"), [("d", 0), ("c", 1)]]))
        self.assertEqual([Bound.KIND, paper.KIND, paper.told(), repr(paper), str(paper)],
                         ["bound", "bound", "bound 2", "Paper(bound 2)", "Paper(bound 2)"])
        self.assertEqual(paper.book, BOOK)
        self.assertIs(paper.holds(), True)

    def test_letters(self):
        # a keeps 2, then d brings 1 of c outside, then c brings 1 of b, as d is ahead.
        self.assertEqual(sameness(self.bound.letters()), "4")
        self.assertEqual(Bound(BOOK, (), (), []).letters(), 0)
        self.assertEqual(Bound(BOOK, (), ("c", "a", "b", "d"), []).letters(), 16)
        self.assertEqual(Bound(BOOK, ("c",), ("c",), [("c", 0)]).letters(), 3)
        self.assertEqual(Bound(BOOK, ("c",), ("c",), [("c", 1)]).letters(), 4)
        self.assertEqual(Bound(BOOK, ("a",), ("a",), [("a", 0)]).letters(), 2)
        self.assertEqual(Bound(BOOK, ("a",), ("c", "a"), [("c", 0), ("a", 0)]).letters(), 5)
        self.assertEqual(Bound(BOOK, ("a",), ("c", "a"), [("a", 0), ("c", 0)]).letters(), 4)
        self.assertEqual(Bound(BOOK, ("a",), ("c", "a"), [("c", 0)]).letters(), 4)

    def test_letters_of_the_told_call_and_not_of_the_least_one(self):
        book = Book(("a", 6, [{"b": 5}, {"c": 1}]), ("b", 1, []), ("c", 1, []))
        self.assertEqual([Bound(book, ("a",), ("a",), [("a", at)]).letters() for at in (0, 1)], [5, 1])

    def test_random_histories(self):
        dice = luck(1)
        for many in range(1, 8):
            for _ in range(10):
                keepers = lucky_keepers(dice, many, 5)
                book = Book(*keepers)
                group = tuple(name for name in book if dice.random() < 0.7)
                few = tuple(name for name in group if dice.random() < 0.5)
                falling = [name for name in group if book.calls(name) and dice.random() < 0.7]
                history = [(name, dice.randrange(len(book.calls(name)))) for name in dice.sample(falling, len(falling))]
                paper = Bound(book, few, group, history)
                self.assertIs(paper.holds(), True)
                self.assertEqual(paper.letters(), plain_letters(keepers, group, history))
                self.assertGreaterEqual(paper.letters(), worths(book, falls=len(history))[few])
                self.assertEqual(paper.told(), f"bound {len(history)}")

    def test_by_name(self):
        paper = Bound(falls=[("c", 0)], group=("c", "a"), lot=("c",), book=BOOK)
        self.assertEqual([paper.few, paper.group, paper.falls(), paper.holds()],
                         [("c",), ("c", "a"), [("c", 0)], True])

    def test_properties_cannot_be_assigned(self):
        for name in ("few", "group", "book"):
            with self.assertRaises(AttributeError):
                setattr(self.bound, name, ())


class Copies(unittest.TestCase):
    def test_changes_of_what_was_passed(self):
        lot, group, falls = ["a", ["b"]], [{"a": [1]}], [("c", [0]), ["a"]]
        paper = Bound(BOOK, lot, group, falls)
        lot[1].append("c")
        lot.append("d")
        group[0]["a"].append(2)
        falls[0][1].append(1)
        falls.append(None)
        self.assertEqual(kinds([paper.few, paper.group, paper.falls()]),
                         kinds([["a", ["b"]], [{"a": [1]}], [("c", [0]), ["a"]]]))
        history = [("c", 0)]
        paper = Bound(BOOK, ("c",), ("c",), history)
        history.append(("c", 0))
        self.assertEqual([paper.holds(), paper.told(), paper.letters()], [True, "bound 1", 3])

    def test_changes_of_what_was_returned(self):
        paper = Bound(BOOK, ["a", ["b"]], [{"a": [1]}], [("c", [0]), ["a"]])
        paper.few.append(1)
        paper.few[1].append(1)
        paper.group[0]["a"].append(1)
        paper.falls().append(1)
        paper.falls()[0][1].append(1)
        self.assertEqual(kinds([paper.few, paper.group, paper.falls()]),
                         kinds([["a", ["b"]], [{"a": [1]}], [("c", [0]), ["a"]]]))
        paper = bound(BOOK, "c", "a")
        told = paper.falls()
        paper.falls().append(("d", 0))
        self.assertEqual([paper.falls(), paper.holds()], [told, True])
        self.assertIsNot(paper.falls(), paper.falls())

    def test_what_was_passed_stays(self):
        lot, group, falls = ["a", ["b"]], [{"a": [1]}], [("c", [0]), ["a"]]
        Bound(BOOK, lot, group, falls).holds()
        self.assertEqual([lot, group, falls], [["a", ["b"]], [{"a": [1]}], [("c", [0]), ["a"]]])

    def test_tuples_stay_tuples(self):
        paper = Bound(BOOK, ("a", ["b"]), ["a", ("b",)], (("c", 0), ("a", 0)))
        self.assertEqual(kinds([paper.few, paper.group, paper.falls()]),
                         kinds([("a", ["b"]), ["a", ("b",)], (("c", 0), ("a", 0))]))

    def test_any_values_are_told(self):
        for value in (*NO_LOTS, *NO_FALLS_OF_ALL):
            paper = Bound(BOOK, value, value, value)
            self.assertEqual(kinds([paper.few, paper.group, paper.falls()]), kinds([value] * 3))
            many = len(value) if isinstance(value, (list, tuple)) else 0
            self.assertEqual([paper.told(), repr(paper)], [f"bound {many}", f"Paper(bound {many})"])


class Holds(unittest.TestCase):
    def check(self, wanted, *values):
        self.assertIs(Bound(BOOK, *values).holds(), wanted, values)

    def test_so(self):
        for values in (((), (), []), ((), ("c",), []), (("c",), ("c",), []), (("c", "d"), ("c", "a", "b", "d"), []),
                       (("a",), ("a", "b"), [("a", 0)]), ((), ("c", "a"), [("c", 1), ("a", 0)]),
                       ((), ("c", "a"), [("a", 0), ("c", 0)]),
                       (("b",), ("c", "a", "b", "d"), [("d", 0), ("c", 1), ("a", 0)]),
                       (("c",), ("c", "a"), (("c", 0), ("a", 0))), (("c",), ("c", "d"), ())):
            self.check(True, *values)

    def test_no_lots(self):
        for value in NO_LOTS:
            self.check(False, value, ("c", "a", "b", "d"), [])
            self.check(False, (), value, [])
            self.check(False, value, value, [])
        self.check(False, [], (), [])
        self.check(False, (), [], [])
        self.check(False, ["a"], ("a",), [])

    def test_lots_that_are_not_within_the_group(self):
        for lot in lots_in_order(BOOK.names()):
            for group in lots_in_order(BOOK.names()):
                self.check(set(lot) <= set(group), lot, group, [])

    def test_no_falls(self):
        for value in NO_FALLS_OF_ALL:
            self.check(False, (), ("c", "a", "b", "d"), value)
            self.check(False, ("a",), ("c", "a", "b", "d"), value)

    def test_one_wrong_fall_at_each_place(self):
        right = [("d", 0), ("a", 0), ("c", 1)]
        for at in range(4):
            for wrong in (None, True, 0, "d", [], (), ("d",), ["d", 0], ("d", 0), ("c", 2), ("b", 0), ("e", 0), {},
                          [[]]):
                self.check(False, (), ("c", "a", "b", "d"), [*right[:at], wrong, *right[at:]])
        self.check(True, (), ("c", "a", "b", "d"), right)

    def test_falls_outside_of_the_group(self):
        self.check(False, (), ("a", "b"), [("c", 0)])
        self.check(False, (), ("c", "b"), [("c", 0), ("d", 0)])
        self.check(False, (), (), [("a", 0)])
        self.check(False, ("c",), ("c",), [("a", 0), ("c", 0)])

    def test_indexes_of_another_keeper(self):
        self.check(True, (), ("c", "a"), [("c", 1)])
        self.check(False, (), ("c", "a"), [("a", 1)])

    def test_another_book(self):
        other = Book(("a", 1, []), ("c", 1, []))
        self.assertIs(Bound(other, ("a",), ("a", "c"), []).holds(), True)
        self.assertIs(Bound(other, ("a",), ("c", "a"), []).holds(), False)
        self.assertIs(Bound(other, ("a",), ("a",), [("a", 0)]).holds(), False)


class Made(unittest.TestCase):
    def check(self, keepers, lot, falls, number):
        book = Book(*keepers)
        paper = bound(book, *lot, falls=falls)
        self.assertIs(paper.__class__, Bound)
        self.assertIs(paper.holds(), True)
        self.assertEqual(paper.book, book)
        self.assertEqual(kinds(paper.few), kinds(tuple(name for name in book if name in lot)))
        history = paper.falls()
        self.assertIs(history.__class__, list)
        self.assertLessEqual(len(history), len(book) if falls is None else falls)
        self.assertLessEqual(set(paper.few), set(paper.group))
        self.assertEqual(sameness(paper.letters()), sameness(number))
        self.assertEqual(plain_letters(keepers, paper.group, history), number)

    def test_small_books(self):
        dice = luck(2)
        for many in range(1, 6):
            for most_letters in (2, 6):
                keepers = lucky_keepers(dice, many, 3, most_letters)
                for falls in (None, *range(10)):
                    table = worths(Book(*keepers), falls=falls)
                    for lot in table:
                        self.check(keepers, lot[::-1], falls, table[lot])

    def test_great_books(self):
        dice = luck(3)
        for keepers in (lucky_keepers(dice, 7, 3), lucky_keepers(dice, 6, 20), full_keepers(dice),
                        full_keepers(dice, 2)):
            for falls in (None, 0, 1, 3, 9):
                table = worths(Book(*keepers), falls=falls)
                for lot in list(table)[::9] + [tuple(name for name, _, _ in keepers)]:
                    self.check(keepers, dice.sample(lot, len(lot)), falls, table[lot])

    def test_steady_keepers_never_fall(self):
        paper = bound(Book(("a", 1, []), ("b", 2, []), ("c", 3, [{"a": 1}])), "b", "c")
        self.assertNotIn("a", [name for name, _ in paper.falls()])
        self.assertNotIn("b", [name for name, _ in paper.falls()])
        self.assertEqual([paper.letters(), paper.holds()], [3, True])

    def test_no_falls(self):
        paper = bound(BOOK, "d", "c", falls=0)
        self.assertEqual(kinds([paper.few, paper.group, paper.falls(), paper.letters(), paper.told()]),
                         kinds([("c", "d"), ("c", "d"), [], 11, "bound 0"]))

    def test_lots_of_greater_groups(self):
        chain = Book(("a", 1, [{"b": 1}]), ("b", 3, [{"c": 1}]), ("c", 3, []))
        paper = bound(chain, "b", "a")
        self.assertEqual([paper.few, paper.letters()], [("a", "b"), 1])
        deep = Book(("a", 6, [{"b": 1}]), ("b", 6, [{"c": 1}]), ("c", 6, []))
        paper = bound(deep, "a", falls=2)
        self.assertEqual([paper.few, paper.letters()], [("a",), 1])
        book = Book(("a", 6, [{"b": 3}, {"c": 4}]), ("b", 6, [{"c": 1}]), ("c", 6, []))
        paper = bound(book, "a")
        self.assertEqual([paper.few, paper.group, paper.falls(), paper.letters()],
                         [("a",), ("a", "b"), [("b", 0), ("a", 0)], 1])

    def test_errors(self):
        for value in (*NO_NAMES, "e", "aa"):
            for lot in ((value,), ("a", value), ("a", "a", value), (value, "a", "a")):
                for falls in (None, 0, 10, True):
                    error = raised(self, UnknownName, bound, BOOK, *lot, falls=falls)
                    self.assertEqual(kinds(error.name), kinds(value))
        for falls in (None, 0, 10, True):
            self.assertEqual(raised(self, DuplicateName, bound, BOOK, "a", "b", "b", "a", falls=falls).name, "b")
        for value in (True, False, -1, 10, "", "0", (), [], [1], {}, [[(None, {"a": [1]})]]):
            for lot in ((), ("a",), ("d", "c")):
                self.assertEqual(kinds(raised(self, InvalidFalls, bound, BOOK, *lot, falls=value).given), kinds(value))


if __name__ == "__main__":
    unittest.main()
