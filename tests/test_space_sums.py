import unittest

from mendworth.errors import InvalidModulus, InvalidSize, Mismatch
from mendworth.spaces import Space
from tests.helper import GREATEST, LEAST, is_within, luck, raised, random_rows, rank_of, sameness, summed


def joined(one, other):
    return one + other


def common(one, other):
    return one & other


class Sums(unittest.TestCase):
    def test_as_told(self):
        one = Space(LEAST, 3, [(1, 2, 0)])
        other = Space(LEAST, 3, [(0, 0, 4), (2, 4, 1)])
        self.assertEqual((one + other).basis(), [(1, 2, 0), (0, 0, 1)])
        self.assertEqual((one + Space(LEAST, 3, [(0, 1, 1)])).basis(), [(1, 0, 10005), (0, 1, 1)])

    def test_vectors_of_both(self):
        dice = luck(1)
        for modulus in (LEAST, GREATEST):
            for size in range(7):
                for many in range(4):
                    one, other = random_rows(dice, modulus, size, many), random_rows(dice, modulus, size, 3 - many)
                    both = Space(modulus, size, one) + Space(modulus, size, other)
                    self.assertEqual(both, Space(modulus, size, one + other))
                    self.assertEqual(len(both), rank_of(modulus, one + other))
                    self.assertEqual([both.modulus, both.size], [modulus, size])

    def test_with_nothing_itself_and_everything(self):
        space = Space(LEAST, 3, [(1, 2, 0), (0, 1, 7)])
        nothing, everything = Space(LEAST, 3), Space.whole(LEAST, 3)
        self.assertEqual([space + nothing, nothing + space, space + space], [space] * 3)
        self.assertEqual([space + everything, everything + space], [everything] * 2)
        self.assertEqual(nothing + nothing, nothing)


class Commons(unittest.TestCase):
    def test_as_told(self):
        one = Space(LEAST, 3, [(1, 0, 0), (0, 1, 0)])
        other = Space(LEAST, 3, [(0, 1, 0), (0, 0, 1)])
        self.assertEqual((one & other).basis(), [(0, 1, 0)])
        skew = Space(LEAST, 3, [(1, 1, 1), (1, 0, 2)])
        self.assertEqual((one & skew).basis(), [(1, 2, 0)])
        self.assertEqual((Space(LEAST, 2, [(1, 2)]) & Space(LEAST, 2, [(1, 3)])).basis(), [])
        self.assertEqual((Space(LEAST, 2, [(1, 2)]) & Space(LEAST, 2, [(3, 6)])).basis(), [(1, 2)])

    def test_vectors_orthogonal_to_themselves(self):
        self.assertEqual((100 * 100 + 1 + 4 + 1 + 1) % LEAST, 0)
        rows = [(100, 1, 2, 1, 1)]
        space = Space(LEAST, 5, rows)
        self.assertEqual(space & space, space)
        self.assertEqual(space & Space.whole(LEAST, 5), space)
        self.assertEqual(space & Space(LEAST, 5, [(1, 0, 0, 0, 0), (0, 1, 2, 1, 1)]), space)

    def check(self, modulus, size, rows, one, other):
        """Independent rows: what two choices of them have in common is made by the rows in both."""
        first = Space(modulus, size, [rows[at] for at in one])
        second = Space(modulus, size, [rows[at] for at in other])
        wanted = Space(modulus, size, [rows[at] for at in one if at in other])
        self.assertEqual(first & second, wanted)
        self.assertEqual(second & first, wanted)
        self.assertEqual([(first & second).modulus, (first & second).size], [modulus, size])
        self.assertEqual(len(first) + len(second), len(first + second) + len(first & second))

    def test_some_none_and_all_in_common(self):
        dice = luck(2)
        for modulus in (LEAST, 65537, GREATEST):
            for size in range(1, 7):
                rows = random_rows(dice, modulus, size, size)
                self.assertEqual(rank_of(modulus, rows), size)
                for _ in range(20):
                    self.check(modulus, size, rows, *[[at for at in range(size) if dice.random() < share]
                                                      for share in (0.6, 0.5)])
                self.check(modulus, size, rows, range(size), range(size))
                self.check(modulus, size, rows, range(size), range(0, size, 2))
                self.check(modulus, size, rows, range(0, size, 2), range(1, size, 2))

    def test_each_vector_is_in_both(self):
        dice = luck(3)
        for _ in range(60):
            size = dice.randrange(1, 6)
            bits = [[[dice.choice((0, 0, 1, 2)) for _ in range(size)] for _ in range(dice.randrange(size + 1))]
                    for _ in range(2)]
            one, other = Space(LEAST, size, bits[0]), Space(LEAST, size, bits[1])
            both = one & other
            self.assertEqual(len(both), len(one) + len(other) - rank_of(LEAST, bits[0] + bits[1]))
            for vector in both:
                self.assertTrue(is_within(LEAST, vector, bits[0]) and is_within(LEAST, vector, bits[1]))

    def test_with_nothing_itself_and_everything(self):
        space = Space(LEAST, 3, [(1, 2, 0), (0, 1, 7)])
        nothing, everything = Space(LEAST, 3), Space.whole(LEAST, 3)
        self.assertEqual([space & nothing, nothing & space, nothing & nothing], [nothing] * 3)
        self.assertEqual([space & everything, everything & space, space & space], [space] * 3)
        self.assertEqual(everything & everything, everything)

    def test_size_zero_and_greatest_size(self):
        none = Space(LEAST, 0)
        self.assertEqual([none & none, none + none], [none, none])
        rows = random_rows(luck(4), GREATEST, 60, 60)
        self.check(GREATEST, 60, rows, range(40), range(25, 60))
        self.check(GREATEST, 60, rows, range(30), range(30, 60))


class Both(unittest.TestCase):
    def test_mismatch(self):
        for combine in (joined, common):
            for rows in ([], [(1, 2)]):
                for other in (Space(10009, 2), Space(10009, 2, [(1, 2)]), Space(LEAST, 3), Space(LEAST, 3, [(1, 2, 0)]),
                              Space(LEAST, 1), Space(LEAST, 0), Space(10009, 3), Space.whole(10009, 2)):
                    raised(self, Mismatch, combine, Space(LEAST, 2, rows), other)
                    raised(self, Mismatch, combine, other, Space(LEAST, 2, rows))

    def test_both_stay_as_they_were(self):
        for combine in (joined, common):
            one, other = Space(LEAST, 3, [(1, 2, 3), (0, 1, 4)]), Space(LEAST, 3, [(1, 2, 4)])
            first, second = one.basis(), other.basis()
            combine(one, other)
            self.assertEqual([one.basis(), other.basis(), len(one), len(other)], [first, second, 2, 1])
            with self.assertRaises(Mismatch):
                combine(one, Space(LEAST, 2))
            self.assertEqual([one.basis(), other.basis()], [first, second])

    def test_results_are_reduced_tuples(self):
        one, other = Space(LEAST, 3, [[2, 4, 6], [0, 3, 1]]), Space(LEAST, 3, [[0, 0, 5], [0, 2, 1]])
        self.assertEqual(sameness((one + other).basis()), "[(1, 0, 0), (0, 1, 0), (0, 0, 1)]")
        self.assertEqual(sameness((one & other).basis()), "[(0, 1, 3336)]")
        self.assertEqual([repr(one + other), repr(one & other)], ["Space(3 of 3)", "Space(1 of 3)"])

    def test_in_place_signs_change_no_space(self):
        kept = one = Space(LEAST, 2, [(1, 0)])
        one += Space(LEAST, 2, [(0, 1)])
        self.assertEqual([repr(kept), repr(one)], ["Space(1 of 2)", "Space(2 of 2)"])
        one &= kept
        self.assertEqual([repr(kept), one], ["Space(1 of 2)", kept])


class Whole(unittest.TestCase):
    def test_all_vectors(self):
        dice = luck(5)
        for size in (0, 1, 2, 5, 60):
            space = Space.whole(GREATEST, size)
            self.assertEqual([len(space), space.size, space.modulus], [size, size, GREATEST])
            self.assertIs(bool(space), size > 0)
            self.assertEqual(space.basis(), [tuple(int(at == here) for here in range(size)) for at in range(size)])
            self.assertTrue(all(vector in space for vector in random_rows(dice, GREATEST, size, 5)))
            made = random_rows(dice, GREATEST, size, size)
            self.assertEqual(space, Space(GREATEST, size, made))

    def test_off_an_object_and_by_name(self):
        self.assertEqual(Space(LEAST, 1).whole(10009, 2), Space.whole(size=2, modulus=10009))
        self.assertEqual(repr(Space.whole(size=2, modulus=10009)), "Space(2 of 2)")

    def test_errors(self):
        self.assertEqual(raised(self, InvalidModulus, Space.whole, 10008, 2).given, 10008)
        self.assertEqual(raised(self, InvalidSize, Space.whole, LEAST, 61).given, 61)
        self.assertEqual(raised(self, InvalidSize, Space.whole, LEAST, -1).given, -1)
        self.assertIs(raised(self, InvalidSize, Space.whole, LEAST, True).given, True)
        self.assertEqual(raised(self, InvalidModulus, Space.whole, 10008, 61).given, 10008)

    def test_the_same_sums_of_equal_spaces(self):
        rows = [(1, 2, 3), (4, 5, 6)]
        more = [summed(LEAST, 3, (3, 4), rows), summed(LEAST, 3, (1, 9), rows)]
        for combine in (joined, common):
            self.assertEqual(combine(Space(LEAST, 3, rows), Space(LEAST, 3, [(0, 0, 1)])),
                             combine(Space(LEAST, 3, more), Space(LEAST, 3, [(0, 0, 5)])))


if __name__ == "__main__":
    unittest.main()
