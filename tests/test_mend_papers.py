import unittest

from mendworth.books import Book
from mendworth.codes import Code, fresh
from mendworth.mends import Mend, admission, mend
from mendworth.papers import Paper
from tests.helper import GREATEST, LEAST, kinds, luck, lucky_falls, lucky_keepers, no_rows, plain_weak_lots, summed

# The helpers stand in another order in the call than in the book.
BOOK = Book(("c", 2, [{"b": 2, "a": 1}, {"b": 1}]), ("a", 1, [{"b": 1}]), ("b", 3, []))
CODE = fresh(BOOK, LEAST, 3)
SENT = {"a": [[2]], "b": [[1, 0, 10006], (3, 4, 5)]}
KEPT = [(1, 2, 3), [10006, 0, 1]]

ANY_VALUES = (None, True, False, 0, 1, -1, 10 ** 30, "", "a", "c", (), ("c",), [], ["c"], [[1, 2, 3]], {}, {"a": 1},
              {"c": [[1]]}, {None: [1]}, {(): []}, [[(None, {"a": [1]})]], ((((((1,),),),),),))


def plain_messages(code, call, sent):
    """What the helpers send, as the document tells it."""
    return {helper: [summed(code.modulus, code.size, factors, code.vectors(helper)) for factors in sent[helper]]
            for helper in code.book if helper in call}


def plain_after(code, name, call, sent, kept):
    """The vectors of all keepers behind a mend, as the document tells it."""
    messages = plain_messages(code, call, sent)
    rows = [row for helper in messages for row in messages[helper]]
    return {**code.table(), name: [summed(code.modulus, code.size, factors, rows) for factors in kept]}


class Told(unittest.TestCase):
    def setUp(self):
        self.paper = Mend(CODE, "c", 0, SENT, KEPT)

    def test_all(self):
        paper = self.paper
        self.assertEqual([paper.book, paper.before], [BOOK, CODE])
        self.assertEqual(kinds([paper.keeper, paper.place]), kinds(["c", 0]))
        self.assertEqual(kinds(paper.sent()), kinds(SENT))
        self.assertEqual(kinds(paper.kept()), kinds(KEPT))
        self.assertEqual([Mend.KIND, paper.KIND, paper.told(), repr(paper), str(paper)],
                         ["mend", "mend", "mend c 0", "Paper(mend c 0)", "Paper(mend c 0)"])
        self.assertEqual(Mend.__bases__, (Paper,))

    def test_messages(self):
        b = CODE.vectors("b")
        self.assertEqual(kinds(self.paper.messages()),
                         kinds({"a": [summed(LEAST, 3, [2], CODE.vectors("a"))],
                                "b": [summed(LEAST, 3, [1, 0, -1], b), summed(LEAST, 3, [3, 4, 5], b)]}))
        self.assertEqual(list(self.paper.messages()), ["a", "b"])

    def test_after(self):
        (a,), (one, other) = self.paper.messages()["a"], self.paper.messages()["b"]
        after = self.paper.after()
        self.assertIs(after.__class__, Code)
        self.assertEqual([after.book, after.modulus, after.size], [BOOK, LEAST, 3])
        # The sent ones stand in the order of the book, not in that of the call.
        self.assertEqual(after.vectors("c"), [summed(LEAST, 3, [1, 2, 3], [a, one, other]),
                                              summed(LEAST, 3, [-1, 0, 1], [a, one, other])])
        self.assertEqual([after.vectors("a"), after.vectors("b")], [CODE.vectors("a"), CODE.vectors("b")])
        self.assertEqual(CODE, fresh(BOOK, LEAST, 3))

    def test_sent_in_any_order(self):
        turned = Mend(CODE, "c", 0, {"b": SENT["b"], "a": SENT["a"]}, KEPT)
        self.assertEqual(list(turned.messages()), ["a", "b"])
        self.assertEqual([turned.messages(), turned.after()], [self.paper.messages(), self.paper.after()])

    def test_by_name(self):
        paper = Mend(kept=KEPT, sent=SENT, at=0, name="c", code=CODE)
        self.assertEqual(paper.after(), self.paper.after())

    def test_any_values_are_told(self):
        for value in ANY_VALUES:
            paper = Mend(CODE, value, value, value, value)
            self.assertEqual(kinds([paper.keeper, paper.place, paper.sent(), paper.kept()]), kinds([value] * 4))
            self.assertEqual([paper.book, paper.before], [BOOK, CODE])
            self.assertEqual([paper.told(), repr(paper)], [f"mend {value} {value}", f"Paper(mend {value} {value})"])
            self.assertIs(paper.holds(), False)

    def test_properties_are_not_assigned(self):
        for name in ("before", "keeper", "place", "book"):
            with self.assertRaises(AttributeError):
                setattr(self.paper, name, 1)


class Lucky(unittest.TestCase):
    def test_as_the_factors_say(self):
        dice = luck(51)
        verdicts = []
        for _ in range(80):
            book = Book(*lucky_keepers(dice, dice.randint(2, 5), 2, 3))
            modulus = dice.choice((LEAST, GREATEST))
            code = fresh(book, modulus, dice.randint(1, min(6, book.kept_by_all())))
            for name, at in lucky_falls(dice, book, 1):
                call = book.call(name, at)
                most = dice.choice((1, 2, modulus))
                sent = {helper: [[dice.randrange(most) for _ in range(book.keep(helper))] for _ in range(call[helper])]
                        for helper in call}
                kept = [[dice.randrange(most) for _ in range(sum(call.values()))] for _ in range(book.keep(name))]
                paper = Mend(code, name, at, sent, kept)
                self.assertEqual(kinds(paper.messages()), kinds(plain_messages(code, call, sent)))
                self.assertEqual(kinds(paper.after().table()), kinds(plain_after(code, name, call, sent, kept)))
                verdicts.append(not plain_weak_lots(paper.after()))
                self.assertIs(paper.holds(), verdicts[-1])
        self.assertGreater(min(verdicts.count(True), verdicts.count(False)), 15)


class Factors(unittest.TestCase):
    def setUp(self):
        self.good = mend(CODE, "c")
        self.assertIs(self.good.holds(), True)

    def changed(self, **named):
        told = {"code": CODE, "name": "c", "at": 0, "sent": self.good.sent(), "kept": self.good.kept()}
        return Mend(**{**told, **named}).holds()

    def test_tuples_fit(self):
        tuples = {helper: tuple(map(tuple, rows)) for helper, rows in self.good.sent().items()}
        self.assertIs(self.changed(sent=tuples, kept=tuple(map(tuple, self.good.kept()))), True)

    def test_wrong_sendings(self):
        for helper, many in (("a", 1), ("b", 2)):
            for value in no_rows(LEAST, many, BOOK.keep(helper)):
                self.assertIs(self.changed(sent={**self.good.sent(), helper: value}), False)

    def test_wrong_keepings(self):
        for value in no_rows(LEAST, 2, 3):
            self.assertIs(self.changed(kept=value), False)

    def test_other_keys(self):
        sent = self.good.sent()
        for key in ("c", "d", "", None, 0, (), ("a",)):
            self.assertIs(self.changed(sent={**sent, key: []}), False)
            self.assertIs(self.changed(sent={**sent, key: [[1]]}), False)
            self.assertIs(self.changed(sent={key: sent["a"], "b": sent["b"]}), False)
        self.assertIs(self.changed(sent={"a": sent["a"]}), False)
        self.assertIs(self.changed(sent={"b": sent["b"]}), False)
        self.assertIs(self.changed(sent={}), False)

    def test_zeros(self):
        zeros = {helper: [[0] * BOOK.keep(helper) for _ in rows] for helper, rows in self.good.sent().items()}
        self.assertIs(self.changed(sent=zeros), False)
        self.assertIs(self.changed(kept=[[0, 0, 0]] * 2), False)
        self.assertIs(self.changed(kept=[[1, 0, 0]] * 2), False)

    def test_another_fall(self):
        for name, at in (("c", 1), ("a", 0), ("b", 0), ("c", 2), ("c", -1), ("c", False), ("c", None), ("c", "0"),
                         ("d", 0), (None, 0), (("c",), 0), ("c", [0]), ({}, 0), (["c"], 0)):
            self.assertIs(self.changed(name=name, at=at), False)

    def test_values_of_all_kinds(self):
        for value in ANY_VALUES:
            self.assertIs(self.changed(sent=value), False)
            self.assertIs(self.changed(kept=value), False)
            self.assertIs(self.changed(at=value), value == 0 and value is not False)
            self.assertIs(self.changed(name=value), value == "c")

    def test_letters_of_another_modulus(self):
        code = fresh(BOOK, 10009, 3)
        paper = mend(code, "c")
        for letter in (LEAST, 10008):
            kept = paper.kept()
            kept[0][0] = letter
            after = Mend(code, "c", 0, paper.sent(), kept)
            self.assertIs(after.holds(), after.after().is_sound())
            self.assertIs(self.changed(kept=kept), False)

    def test_a_code_that_is_weak_elsewhere(self):
        table = CODE.table()
        table["b"] = [(1, 1, 1)] * 3
        self.assertIs(self.changed(code=Code(BOOK, LEAST, 3, table)), False)

    def test_a_code_that_is_weak_at_the_fallen_keeper_only(self):
        table = CODE.table()
        table["c"] = [(0, 0, 0)] * 2
        code = Code(BOOK, LEAST, 3, table)
        self.assertIs(code.is_sound(), False)
        self.assertIs(self.changed(code=code), True)


class Copies(unittest.TestCase):
    def told(self, paper):
        return kinds([paper.keeper, paper.place, paper.sent(), paper.kept(), paper.messages(), paper.after().table()])

    def test_what_is_passed_may_be_changed(self):
        sent = {"a": [[2]], "b": [[1, 0, 10006], [3, 4, 5]]}
        kept = [[1, 2, 3], [10006, 0, 1]]
        paper = Mend(CODE, "c", 0, sent, kept)
        before = self.told(paper)
        paper.holds()
        self.assertEqual(kinds([sent, kept]), kinds([{"a": [[2]], "b": [[1, 0, 10006], [3, 4, 5]]},
                                                     [[1, 2, 3], [10006, 0, 1]]]))
        sent["a"][0][0] = 9
        sent["b"].pop()
        sent["d"] = 1
        kept[0].append(1)
        kept.pop()
        self.assertEqual(self.told(paper), before)

    def test_what_is_returned_may_be_changed(self):
        for paper in (Mend(CODE, "c", 0, SENT, KEPT), mend(CODE, "c"), admission(CODE, "d", 1, {"b": 1})):
            before = self.told(paper)
            paper.sent()["b"][0][0] = 77
            paper.sent().clear()
            paper.kept()[-1] = None
            paper.kept().pop()
            paper.messages()["b"].pop()
            paper.messages().clear()
            paper.after().table().clear()
            self.assertEqual(self.told(paper), before)

    def test_lists_in_the_place_of_the_fall(self):
        name, at = [["c"]], {"c": [0]}
        paper = Mend(CODE, name, at, None, None)
        name[0].append(1)
        at["c"][0] = 1
        self.assertEqual(kinds([paper.keeper, paper.place]), kinds([[["c"]], {"c": [0]}]))
        paper.keeper[0].append(1)
        paper.place["c"].pop()
        self.assertEqual(kinds([paper.keeper, paper.place]), kinds([[["c"]], {"c": [0]}]))


if __name__ == "__main__":
    unittest.main()
