import unittest
from itertools import product

from mendworth.books import Book
from mendworth.compare import Comparison, helpful, needless_calls, trimmed
from mendworth.errors import Differ, DuplicateName, UnknownName
from mendworth.worths import worth, worths
from tests.helper import NO_NAMES, full_keepers, kinds, lots_in_order, luck, lucky_keepers, plain_worths, raised

CHAIN = Book(("a", 1, [{"b": 1}]), ("b", 3, [{"c": 1}]), ("c", 3, []))
FOUR = Book.alike("d", "a", "c", "b", keep=2, helpers=3)


def plainly(one, other):
    """The first lots that are worth more and less, and the word, by plain worths."""
    table, beside = plain_worths(one.keepers()), plain_worths(other.keepers())
    lots = lots_in_order(one.names())
    more = next((lot for lot in lots if table[lot] > beside[lot]), None)
    less = next((lot for lot in lots if table[lot] < beside[lot]), None)
    word = {(True, True): "equal", (False, True): "more", (True, False): "less"}.get((more is None, less is None),
                                                                                    "crossed")
    return more, less, word


class Compared(unittest.TestCase):
    def check(self, one, other, word):
        told = Comparison(one, other)
        more, less, expected = plainly(one, other)
        self.assertEqual(expected, word)
        self.assertEqual(kinds([told.more(), told.less(), told.word]), kinds([more, less, word]))
        self.assertIs(bool(told), less is None)
        self.assertEqual([repr(told), str(told)], [f"Comparison({word})"] * 2)
        return told

    def test_words(self):
        self.assertEqual(kinds(Comparison.WORDS), kinds(("equal", "more", "less", "crossed")))
        self.assertEqual(Comparison(CHAIN, CHAIN).WORDS, Comparison.WORDS)

    def test_equal(self):
        self.check(CHAIN, CHAIN, "equal")
        self.check(CHAIN, Book.read(CHAIN.text()), "equal")
        # A call that asks for more than any other one changes no worth.
        self.check(CHAIN, CHAIN.with_call("a", {"b": 6, "c": 6}), "equal")

    def test_more_and_less(self):
        more = CHAIN.without_call("a").with_keep("a", 2)
        self.check(more, CHAIN, "more")
        self.check(CHAIN, more, "less")
        told = self.check(FOUR.with_keep("b", 1), FOUR, "less")
        self.assertEqual([told.more(), told.less(), bool(told)], [None, ("b",), False])
        told = self.check(FOUR, FOUR.with_keep("b", 1), "more")
        self.assertEqual([told.more(), told.less(), bool(told)], [("b",), None, True])

    def test_crossed(self):
        told = self.check(CHAIN.with_keep("c", 2), CHAIN.without_call("a").with_keep("c", 1).with_call(
            "a", {"c": 1}).without_call("b").with_keep("b", 4), "crossed")
        self.assertIs(bool(told), False)
        one = Book(("a", 2, []), ("b", 1, []))
        other = Book(("a", 1, []), ("b", 2, []))
        told = self.check(one, other, "crossed")
        self.assertEqual([told.more(), told.less()], [("a",), ("b",)])

    def test_greater_lots_alone(self):
        # Each keeper alone is worth the same.
        one = Book.alike("c", "a", "b", keep=2, helpers=2, letters=2)
        other = Book.alike("c", "a", "b", keep=2, helpers=2, letters=1)
        told = self.check(one, other, "more")
        self.assertEqual(told.more(), ("c", "a"))

    def test_lucky_books(self):
        dice = luck(201)
        words = set()
        for _ in range(60):
            keepers = lucky_keepers(dice, dice.randint(1, 4), 2, 3)
            one = Book(*keepers)
            other = one
            for _ in range(dice.randint(0, 3)):
                other = other.with_keep(dice.choice(one.names()), dice.randint(1, 3))
            for name, at in [(name, at) for name in one for at in range(len(one.calls(name)))][:dice.randint(0, 1)]:
                other = other.without_call(name, at)
            word = plainly(one, other)[2]
            self.check(one, other, word)
            words.add(word)
        self.assertEqual(words, set(Comparison.WORDS))

    def test_by_name(self):
        told = Comparison(other=CHAIN, one=CHAIN.without_call("a"))
        self.assertEqual(told.word, Comparison(CHAIN.without_call("a"), CHAIN).word)

    def test_full_books(self):
        dice = luck(202)
        one = Book(*full_keepers(dice))
        other = one.without_call("a").without_call("b", 7)
        table, beside = worths(one), worths(other)
        told = Comparison(one, other)
        lots = lots_in_order(one.names())
        self.assertEqual(told.less(), next((lot for lot in lots if table[lot] < beside[lot]), None))
        self.assertEqual(told.more(), None)

    def test_other_names(self):
        for other in (CHAIN.renamed("a", "d"), CHAIN.with_keeper("d", 1), Book(*reversed(CHAIN.keepers())),
                      Book(("a", 1, []), ("c", 1, []), ("b", 1, [])), Book(("a", 1, []))):
            raised(self, Differ, Comparison, CHAIN, other)
            raised(self, Differ, Comparison, other, CHAIN)


def plain_needless(book):
    table = plain_worths(book.keepers())
    return [(name, at) for name in book for at in range(len(book.calls(name)))
            if plain_worths(book.without_call(name, at).keepers()) == table]


class Needless(unittest.TestCase):
    def test_named_books(self):
        self.assertEqual(kinds(needless_calls(CHAIN)), "list()")
        twice = CHAIN.with_call("a", {"b": 1}).with_call("c", {"a": 6, "b": 6})
        self.assertEqual(kinds(needless_calls(twice)), kinds([("a", 0), ("a", 1)]))
        self.assertEqual(needless_calls(book=CHAIN.with_call("a", {"c": 1})), plain_needless(
            CHAIN.with_call("a", {"c": 1})))

    def test_lucky_books(self):
        dice = luck(211)
        found = 0
        for _ in range(40):
            book = Book(*lucky_keepers(dice, dice.randint(1, 4), 3, 3))
            text = book.text()
            self.assertEqual(kinds(needless_calls(book)), kinds(plain_needless(book)))
            self.assertEqual(book.text(), text)
            found += len(plain_needless(book))
        self.assertGreater(found, 20)


class Trimmed(unittest.TestCase):
    def plainly(self, book):
        table = plain_worths(book.keepers())
        for name in reversed(book.names()):
            for at in reversed(range(len(book.calls(name)))):
                if plain_worths(book.without_call(name, at).keepers()) == table:
                    book = book.without_call(name, at)
        return book

    def test_the_first_one_of_two_alike_stays(self):
        twice = CHAIN.with_call("a", {"b": 1, "c": 1}).with_call("a", {"b": 1}).with_call("a", {"c": 1})
        self.assertEqual(trimmed(twice).text(), self.plainly(twice).text())
        self.assertEqual(trimmed(CHAIN.with_call("a", {"b": 1})), CHAIN)
        self.assertEqual(trimmed(CHAIN), CHAIN)

    def test_the_order_counts(self):
        # Either call of a is needless while the other one is there.
        book = Book(("a", 2, [{"b": 1}, {"b": 1, "c": 0 + 1}, {"b": 1}]), ("b", 2, []), ("c", 2, []))
        self.assertEqual(trimmed(book).calls("a"), [{"b": 1}])
        turned = Book(("a", 2, [{"c": 1}, {"b": 1}]), ("b", 1, [{"a": 2}, {"c": 2}]), ("c", 1, [{"b": 1}]))
        self.assertEqual(trimmed(turned).text(), self.plainly(turned).text())

    def test_lucky_books(self):
        dice = luck(221)
        several = 0
        for _ in range(40):
            book = Book(*lucky_keepers(dice, dice.randint(1, 4), 3, 3))
            text = book.text()
            rest = trimmed(book=book)
            self.assertEqual(rest.text(), self.plainly(book).text())
            self.assertEqual(book.text(), text)
            self.assertEqual(worths(rest), worths(book))
            self.assertEqual(needless_calls(rest), [])
            several += len(needless_calls(book)) > 1
        self.assertGreater(several, 8)

    def test_full_books(self):
        book = Book(*full_keepers(luck(222)))
        rest = trimmed(book)
        self.assertEqual(worths(rest), worths(book))
        self.assertEqual(needless_calls(rest), [])


def plain_spots(book):
    """All spots that are not at 6, each with the book behind one letter more there."""
    found = []
    for place, (name, keep, calls) in enumerate(book.keepers()):
        if keep < 6:
            found.append(((name,), book.with_keep(name, keep + 1)))
        for at, call in enumerate(calls):
            for helper in sorted(call):
                if call[helper] < 6:
                    keepers = book.keepers()
                    keepers[place][2][at][helper] += 1
                    found.append(((name, at, helper), Book(*keepers)))
    return found


class Helpful(unittest.TestCase):
    def plainly(self, book, lot):
        told = tuple(name for name in book if name in lot)
        least = plain_worths(book.keepers())[told]
        return [spot for spot, more in plain_spots(book) if plain_worths(more.keepers())[told] > least]

    def test_chain(self):
        self.assertEqual(kinds(helpful(CHAIN, "b")), kinds([("b", 0, "c")]))
        self.assertEqual(kinds(helpful(CHAIN, "c")), kinds([("c",)]))
        self.assertEqual(kinds(helpful(CHAIN, "c", "b")), kinds([("c",)]))
        self.assertEqual(kinds(helpful(CHAIN)), "list()")

    def test_the_order_of_spots(self):
        book = Book(("b", 1, [{"c": 1, "a": 1}, {"c": 2}]), ("a", 1, []), ("c", 1, [{"b": 1, "a": 1}]))
        for lot in lots_in_order(book.names()):
            self.assertEqual(kinds(helpful(book, *lot)), kinds(self.plainly(book, lot)))
        book = Book(("x", 2, []), ("z", 5, [{"d": 6, "a": 6}, {"d": 1, "a": 1}]), ("d", 6, []), ("a", 6, []),
                    ("b", 1, [{"d": 1}, {"a": 2}]))
        for lot in (("x", "z", "b"), ("b", "z", "x"), ("z", "b", "x")):
            self.assertEqual(kinds(helpful(book, *lot)),
                             kinds([("x",), ("z", 1, "a"), ("z", 1, "d")]))
        self.assertEqual(helpful(book.with_keep("b", 2), "b", "x"), [("x",), ("b", 0, "d")])
        self.assertEqual(helpful(book.without_call("b"), "b", "x"), [("x",), ("b",)])
        alone = Book(("z", 6, [{"d": 1, "a": 1}]), ("d", 6, []), ("a", 6, []))
        self.assertEqual(helpful(alone, "z"), [("z", 0, "a"), ("z", 0, "d")])
        self.assertEqual(helpful(alone, "z", "d", "a"), [])

    def test_spots_at_six(self):
        book = Book(("a", 6, [{"b": 6}]), ("b", 6, [{"a": 6}]), ("c", 6, []))
        for lot in lots_in_order(book.names()):
            self.assertEqual(helpful(book, *lot), [])
        self.assertEqual(helpful(book.with_keep("c", 5), "c"), [("c",)])
        five = Book(("a", 6, [{"b": 5}]), ("b", 6, []))
        self.assertEqual(helpful(five, "a"), [("a", 0, "b")])

    def test_lucky_books(self):
        dice = luck(231)
        with_calls = 0
        for _ in range(25):
            book = Book(*lucky_keepers(dice, dice.randint(1, 4), 2, dice.choice((2, 6))))
            if dice.random() < 0.6:
                book = Book(*[(name, 6, [{helper: min(2, call[helper]) for helper in call} for call in calls])
                              for name, keep, calls in book.keepers()])
            text = book.text()
            lots = lots_in_order(book.names())
            for lot in dice.sample(lots, min(3, len(lots))):
                found = self.plainly(book, lot)
                self.assertEqual(kinds(helpful(book, *dice.sample(lot, len(lot)))), kinds(found))
                with_calls += any(len(spot) == 3 for spot in found)
            self.assertEqual(book.text(), text)
        self.assertGreater(with_calls, 8)

    def test_full_books(self):
        dice = luck(232)
        keepers = full_keepers(dice, 5)
        # One call of each keeper asks for so little that a letter of it counts.
        keepers = [(name, 6, [*calls[:19], {calls[19].copy().popitem()[0]: 1}]) for name, keep, calls in keepers]
        book = Book(*keepers)
        for lot in (("a",), ("g", "b"), tuple(book)):
            least = worth(book, *lot)
            spots = [spot for spot, more in plain_spots(book) if spot[1:2] in ((), (19,)) and worth(more, *lot) > least]
            found = helpful(book, *lot)
            self.assertEqual([spot for spot in found if spot[1:2] in ((), (19,))], spots)

    def test_errors_of_a_lot(self):
        for name in (*NO_NAMES, "d"):
            self.assertEqual(kinds(raised(self, UnknownName, helpful, CHAIN, "a", "a", name, "e").name), kinds(name))
        self.assertEqual(raised(self, DuplicateName, helpful, CHAIN, "b", "a", "c", "a", "b").name, "a")

    def test_by_name(self):
        self.assertEqual(helpful(book=CHAIN), [])


class All(unittest.TestCase):
    def test_two_keepers_of_all_kinds(self):
        calls = [[], [{"b": 1}], [{"b": 2}], [{"b": 2}, {"b": 1}]]
        for (keep, ahead), (other, behind) in product(product((1, 2, 6), calls), repeat=2):
            turned = [{"a": call["b"]} for call in behind]
            book = Book(("a", keep, ahead), ("b", other, turned))
            self.assertEqual(needless_calls(book), plain_needless(book))
            table = plain_worths(book.keepers())
            for lot in table:
                self.assertEqual(helpful(book, *lot), [spot for spot, more in plain_spots(book)
                                                       if plain_worths(more.keepers())[lot] > table[lot]])


if __name__ == "__main__":
    unittest.main()
