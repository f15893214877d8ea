import unittest

from mendworth.errors import InvalidModulus, InvalidSize, InvalidVector
from mendworth.spaces import Space
from tests.helper import (GREATEST, LEAST, NO_NUMBERS, NO_PAIRS, is_within, luck, raised, random_rows, rank_of,
                          sameness, summed)

# The second row is three times the first one, the last one the sum of the first and the fourth.
ROWS = [[0, 2, 4, 0, 6], (0, 6, 12, 0, 18), [0, 0, 0, 0, 0], [0, 1, 2, 5, 1], (0, 3, 6, 5, 7)]
# The last letter: 5 * 2001 is 10005, and the fourth row less half of the first one ends in 5 and -2.
BASIS = [(0, 1, 2, 0, 3), (0, 0, 0, 1, 2001)]


def luckily_made(seed):
    """Some rows of each of many shapes: modulus, size, rows."""
    dice = luck(seed)
    for size in (0, 1, 2, 3, 5, 8):
        for many in (0, 1, 2, 4, 9):
            for modulus in (LEAST, 65537, GREATEST):
                rows = random_rows(dice, modulus, size, max(1, many // 2))
                made = [summed(modulus, size, [dice.choice((0, 0, 1, 2, 9999)) for _ in rows], rows)
                        for _ in range(many)]
                sparse = [tuple(dice.choice((0, 0, 0, letter)) for letter in row) for row in made[:2]]
                yield modulus, size, made + sparse


class Told(unittest.TestCase):
    def test_rank(self):
        self.assertEqual(len(Space(LEAST, 5, ROWS)), 2)
        for modulus, size, rows in luckily_made(1):
            self.assertEqual(len(Space(modulus, size, rows)), rank_of(modulus, rows))

    def test_rank_of_vectors_that_are_equal_modulo_only(self):
        self.assertEqual(len(Space(LEAST, 2, [(1, 5004), (2, 1)])), 1)
        self.assertEqual(len(Space(10009, 2, [(1, 5004), (2, 1)])), 2)

    def test_no_vectors(self):
        for space in (Space(LEAST, 3), Space(LEAST, 3, ()), Space(LEAST, 3, []), Space(LEAST, 3, [(0, 0, 0)] * 2)):
            self.assertEqual([len(space), space.basis(), list(space), repr(space)], [0, [], [], "Space(0 of 3)"])
            self.assertIs(bool(space), False)
            self.assertIs((0, 0, 0) in space, True)
            self.assertIs((0, 1, 0) in space, False)

    def test_size_zero(self):
        for space in (Space(LEAST, 0), Space(LEAST, 0, [()]), Space(LEAST, 0, ([], (), []))):
            self.assertEqual([len(space), space.size, space.basis(), repr(space)], [0, 0, [], "Space(0 of 0)"])
            self.assertIs(bool(space), False)
            self.assertIs(() in space, True)
            self.assertIs([] in space, True)
            self.assertIs((0,) in space, False)
            self.assertEqual(sameness([space.reduced(()), space.reduced([])]), "[(), ()]")

    def test_truth(self):
        self.assertIs(bool(Space(LEAST, 1, [[5]])), True)
        self.assertIs(bool(Space(LEAST, 2, [[0, 0], [0, 3]])), True)
        self.assertIs(bool(Space(LEAST, 1, [[0]])), False)

    def test_modulus_size_and_most(self):
        space = Space(65537, 5, [(1, 2, 3, 4, 5)])
        self.assertEqual(sameness([space.modulus, space.size, Space.MOST, space.MOST]), "[65537, 5, 60, 60]")
        with self.assertRaises(AttributeError):
            space.modulus = LEAST
        with self.assertRaises(AttributeError):
            space.size = 4

    def test_repr(self):
        self.assertEqual(repr(Space(LEAST, 5, ROWS)), "Space(2 of 5)")
        self.assertEqual(str(Space(LEAST, 1, [[3]])), "Space(1 of 1)")
        self.assertEqual(f"{Space(LEAST, 60)}", "Space(0 of 60)")

    def test_twice_and_sums_and_orders_and_kinds(self):
        told = Space(LEAST, 5, ROWS)
        for rows in ([*ROWS, *ROWS], tuple(ROWS), ROWS[::-1], [list(row) for row in ROWS], tuple(map(tuple, ROWS)),
                     [ROWS[0], ROWS[3]], [ROWS[1], ROWS[4]], BASIS):
            self.assertEqual(Space(LEAST, 5, rows), told)
            self.assertEqual(Space(LEAST, 5, rows).basis(), BASIS)

    def test_by_name(self):
        self.assertEqual(Space(vectors=ROWS, size=5, modulus=LEAST).basis(), BASIS)
        self.assertEqual(repr(Space(size=2, modulus=LEAST)), "Space(0 of 2)")

    def test_greatest_size_and_many_vectors(self):
        dice = luck(3)
        rows = random_rows(dice, GREATEST, 60, 60)
        self.assertEqual(len(Space(GREATEST, 60, rows)), 60)
        few = random_rows(dice, GREATEST, 60, 7)
        many = [summed(GREATEST, 60, [dice.randrange(GREATEST) for _ in few], few) for _ in range(200)]
        space = Space(GREATEST, 60, many)
        self.assertEqual(repr(space), "Space(7 of 60)")
        self.assertEqual(space, Space(GREATEST, 60, few))


class Within(unittest.TestCase):
    def test_vectors_of_the_space(self):
        dice = luck(4)
        for modulus, size, rows in luckily_made(5):
            space = Space(modulus, size, rows)
            for _ in range(4):
                vector = summed(modulus, size, [dice.randrange(modulus) for _ in rows], rows)
                self.assertIs(vector in space, True)
                self.assertIs(list(vector) in space, True)
            self.assertTrue(all(row in space for row in rows))

    def test_vectors_beside_the_space(self):
        dice = luck(6)
        for modulus, size, rows in luckily_made(7):
            space = Space(modulus, size, rows)
            for vector in random_rows(dice, modulus, size, 3) + [(0,) * (size - 1) + (1,) * (size > 0)]:
                self.assertIs(vector in space, is_within(modulus, vector, rows))

    def test_one_letter_off(self):
        space = Space(LEAST, 5, ROWS)
        for at in range(5):
            vector = [0, 4, 8, 5, 7 + 3]
            self.assertIs(vector in space, True)
            vector[at] = vector[at] + 1
            self.assertIs(vector in space, False)

    def test_any_value(self):
        for space in (Space(LEAST, 2), Space(LEAST, 2, [(1, 5)]), Space.whole(LEAST, 2)):
            for value in (*NO_PAIRS, *NO_NUMBERS, 10 ** 30, "a" * 9000):
                self.assertIs(value in space, False, value)
                self.assertIs(value not in space, True, value)

    def test_vectors_of_other_lengths(self):
        space = Space.whole(LEAST, 3)
        for vector in ((), (0,), (1, 2), (0, 0, 0, 0), [1, 2, 3, 0]):
            self.assertIs(vector in space, False)
        self.assertIs((0,) in Space(LEAST, 0), False)

    def test_letters_of_a_greater_modulus(self):
        self.assertIs((10007, 0) in Space.whole(10009, 2), True)
        self.assertIs((10007, 0) in Space.whole(10007, 2), False)


class Basis(unittest.TestCase):
    def check(self, modulus, size, rows):
        basis = Space(modulus, size, rows).basis()
        self.assertIs(basis.__class__, list)
        self.assertEqual(len(basis), rank_of(modulus, rows))
        leads = []
        for vector in basis:
            self.assertIs(vector.__class__, tuple)
            self.assertEqual(len(vector), size)
            self.assertTrue(all(letter.__class__ is int and 0 <= letter < modulus for letter in vector))
            self.assertTrue(is_within(modulus, vector, rows))
            leads.append(next(at for at in range(size) if vector[at]))
        self.assertTrue(all(one < other for one, other in zip(leads, leads[1:])))
        for at, vector in enumerate(basis):
            self.assertEqual([vector[lead] for lead in leads], [int(at == other) for other in range(len(basis))])

    def test_as_told(self):
        self.assertEqual(Space(LEAST, 5, ROWS).basis(), BASIS)
        self.assertEqual(Space(LEAST, 3, [(2, 4, 6)]).basis(), [(1, 2, 3)])
        self.assertEqual(Space(LEAST, 3, [(0, 0, 5), (0, 3, 1)]).basis(), [(0, 1, 0), (0, 0, 1)])
        self.assertEqual(Space(LEAST, 3, [(0, 0, 9), (1, 2, 3), (0, 1, 4)]).basis(), [(1, 0, 0), (0, 1, 0), (0, 0, 1)])
        self.assertEqual(Space(LEAST, 4, [(0, 0, 1, 2), (1, 3, 4, 0)]).basis(), [(1, 3, 0, 9999), (0, 0, 1, 2)])
        self.assertEqual(Space(LEAST, 2, [(10006, 1)]).basis(), [(1, 10006)])

    def test_many_shapes(self):
        for modulus, size, rows in luckily_made(8):
            self.check(modulus, size, rows)

    def test_each_order_of_leads(self):
        rows = [(0, 0, 0, 7), (0, 0, 5, 1), (0, 3, 1, 1), (2, 1, 1, 1)]
        for start in range(4):
            self.check(LEAST, 4, rows[start:] + rows[:start])
            self.check(LEAST, 4, rows[:start])
            self.check(LEAST, 4, rows[start::2][::-1])

    def test_a_new_list_each_time(self):
        space = Space(LEAST, 5, ROWS)
        first = space.basis()
        first.append((0, 0, 0, 0, 1))
        first[0] = None
        self.assertEqual(space.basis(), BASIS)
        self.assertEqual(list(space), BASIS)
        self.assertIsNot(space.basis(), space.basis())
        self.assertEqual(repr(space), "Space(2 of 5)")

    def test_iterating(self):
        space = Space(LEAST, 5, ROWS)
        self.assertEqual(sameness([row for row in space]), sameness(BASIS))
        self.assertEqual([(one, other) for one in space for other in space],
                         [(one, other) for one in BASIS for other in BASIS])
        self.assertEqual(sameness(tuple(space)), sameness(tuple(BASIS)))
        first, second = space
        self.assertEqual([first, second], BASIS)
        for modulus, size, rows in luckily_made(9):
            space = Space(modulus, size, rows)
            self.assertEqual(sameness(list(space)), sameness(space.basis()))

    def test_the_basis_of_a_basis(self):
        for modulus, size, rows in luckily_made(10):
            basis = Space(modulus, size, rows).basis()
            self.assertEqual(Space(modulus, size, basis).basis(), basis)


class Equality(unittest.TestCase):
    def test_equal_spaces_made_of_other_vectors(self):
        dice = luck(11)
        for modulus, size, rows in luckily_made(12):
            space = Space(modulus, size, rows)
            more = [summed(modulus, size, [dice.randrange(modulus) for _ in rows], rows) for _ in rows]
            other = Space(modulus, size, (rows + more)[::-1])
            self.assertIs(space == other, True)
            self.assertIs(space != other, False)
            self.assertEqual(space.basis(), other.basis())

    def test_other_vectors(self):
        space = Space(LEAST, 3, [(1, 2, 3)])
        for rows in ([], [(1, 2, 4)], [(0, 2, 3)], [(1, 2, 3), (0, 0, 1)], [(1, 0, 3)], [(0, 0, 1)]):
            self.assertIs(space == Space(LEAST, 3, rows), False)
            self.assertIs(space != Space(LEAST, 3, rows), True)
            self.assertIs(Space(LEAST, 3, rows) == space, False)

    def test_other_modulus_or_size(self):
        self.assertIs(Space(LEAST, 3) == Space(10009, 3), False)
        self.assertIs(Space(LEAST, 3, [(1, 2, 3)]) == Space(10009, 3, [(1, 2, 3)]), False)
        self.assertIs(Space(LEAST, 3) == Space(LEAST, 4), False)
        self.assertIs(Space(LEAST, 0) == Space(LEAST, 1), False)
        self.assertIs(Space(LEAST, 3) != Space(LEAST, 4), True)

    def test_nothing_else(self):
        space = Space(LEAST, 5, ROWS)
        for value in (*NO_NUMBERS, BASIS, tuple(BASIS), repr(space), 2, 5, LEAST, (LEAST, 5, BASIS)):
            self.assertIs(space == value, False)
            self.assertIs(value == space, False)
            self.assertIs(space != value, True)
        self.assertIs(Space(LEAST, 5) == [], False)
        self.assertIs(Space(LEAST, 5) == (), False)
        self.assertIs(Space(LEAST, 0) == 0, False)


class Reduced(unittest.TestCase):
    def check(self, space, rows, vector):
        rest = space.reduced(vector)
        self.assertIs(rest.__class__, tuple)
        self.assertEqual(len(rest), space.size)
        self.assertTrue(all(0 <= letter < space.modulus for letter in rest))
        difference = [(one - other) % space.modulus for one, other in zip(vector, rest)]
        self.assertTrue(is_within(space.modulus, difference, rows))
        for row in space.basis():
            self.assertEqual(rest[row.index(1)], 0)

    def test_as_told(self):
        space = Space(LEAST, 5, ROWS)
        self.assertEqual(sameness(space.reduced([9, 1, 0, 0, 0])), "(9, 0, 10005, 0, 10004)")
        self.assertEqual(sameness(space.reduced((0, 0, 7, 1, 2001))), "(0, 0, 7, 0, 0)")
        self.assertEqual(sameness(space.reduced(vector=[0, 2, 4, 0, 6])), "(0, 0, 0, 0, 0)")

    def test_within_beside_and_outside(self):
        dice = luck(13)
        for modulus, size, rows in luckily_made(14):
            space = Space(modulus, size, rows)
            within = summed(modulus, size, [dice.randrange(modulus) for _ in rows], rows)
            self.assertEqual(sameness(space.reduced(within)), sameness((0,) * size))
            for vector in random_rows(dice, modulus, size, 3):
                self.check(space, rows, vector)
                moved = [(one + other) % modulus for one, other in zip(vector, within)]
                self.assertEqual(space.reduced(tuple(moved)), space.reduced(vector))

    def test_reduced_again(self):
        space = Space(LEAST, 5, ROWS)
        rest = space.reduced([1, 2, 3, 4, 5])
        self.assertEqual(sameness(space.reduced(rest)), sameness(rest))
        self.assertEqual(sameness(space.reduced(list(rest))), sameness(rest))

    def test_in_the_least_and_the_greatest_space(self):
        self.assertEqual(sameness(Space(LEAST, 2).reduced([5, 6])), "(5, 6)")
        self.assertEqual(sameness(Space.whole(LEAST, 2).reduced([5, 6])), "(0, 0)")

    def test_the_vector_stays(self):
        vector = [1, 2, 3, 4, 5]
        Space(LEAST, 5, ROWS).reduced(vector)
        self.assertEqual(vector, [1, 2, 3, 4, 5])

    def test_no_vectors_of_this_length(self):
        for space in (Space(LEAST, 2), Space(LEAST, 2, [(1, 5)]), Space.whole(LEAST, 2)):
            for value in NO_PAIRS:
                self.assertEqual(sameness(raised(self, InvalidVector, space.reduced, value).at), "0")
        self.assertEqual(raised(self, InvalidVector, Space(LEAST, 0).reduced, (0,)).at, 0)


class Unchanging(unittest.TestCase):
    def test_what_is_passed_stays(self):
        rows = [list(row) for row in ROWS]
        space = Space(LEAST, 5, rows)
        self.assertIs([0, 2, 4, 0, 6] in space, True)
        self.assertEqual(rows, [list(row) for row in ROWS])
        self.assertTrue(all(row.__class__ is list for row in rows))

    def test_what_is_asked_for_stays(self):
        space = Space(LEAST, 5, ROWS)
        for vector in ([9, 1, 2, 0, 3], [0, 2, 4, 0, 6]):
            before = list(vector)
            self.assertIs(vector in space, vector[0] == 0)
            self.assertEqual(vector, before)
        self.assertEqual(space.basis(), BASIS)

    def test_later_changes_of_what_was_passed(self):
        for kind in (list, tuple):
            rows = [[1, 2, 3], [0, 1, 5]]
            space = Space(LEAST, 3, kind(rows))
            before = space.basis()
            rows[0][2] = 9
            rows[1][:] = [0, 0, 0]
            rows.append([0, 0, 1])
            rows[0] = None
            self.assertEqual(space.basis(), before)
            self.assertEqual(before, [(1, 0, 10000), (0, 1, 5)])
            self.assertEqual([len(space), list(space), [1, 2, 3] in space], [2, before, True])

    def test_later_changes_of_one_vector_that_is_its_own_basis(self):
        row = [1, 0]
        space = Space(LEAST, 2, [row])
        row[1] = 1
        self.assertEqual(sameness(space.basis()), "[(1, 0)]")


class WrongParts(unittest.TestCase):
    WRONG_MODULI = (0, 1, 2, -7, 9973, 10006, 10008, 999982, 1000003, 10 ** 30, *NO_NUMBERS)
    WRONG_SIZES = (-1, -2, 61, 62, 10 ** 30, -10 ** 30, *NO_NUMBERS)

    def makers(self):
        return Space, Space.whole

    def test_wrong_modulus(self):
        for make in self.makers():
            for modulus in self.WRONG_MODULI:
                error = raised(self, InvalidModulus, make, modulus, 2)
                self.assertEqual(sameness(error.given), sameness(modulus))

    def test_wrong_size(self):
        for make in self.makers():
            for size in self.WRONG_SIZES:
                error = raised(self, InvalidSize, make, LEAST, size)
                self.assertEqual(sameness(error.given), sameness(size))

    def test_sizes_at_the_ends(self):
        self.assertEqual(Space(LEAST, 0).size, 0)
        self.assertEqual(Space(LEAST, 60).size, 60)
        self.assertEqual(Space.whole(LEAST, 0).size, 0)
        self.assertEqual(Space.whole(LEAST, 60).size, 60)

    def test_wrong_vector_at_each_place(self):
        for wrong in NO_PAIRS:
            for at in range(4):
                for kind in (list, tuple):
                    rows = [(1, 2), [3, 4], (2, 4), [0, 0]]
                    rows[at] = wrong
                    error = raised(self, InvalidVector, Space, LEAST, 2, kind(rows))
                    self.assertEqual(sameness(error.at), sameness(at))

    def test_first_wrong_vector_counts(self):
        self.assertEqual(raised(self, InvalidVector, Space, LEAST, 2, [(1, 2), [3], None, (1, 2)]).at, 1)
        self.assertEqual(raised(self, InvalidVector, Space, LEAST, 2, [(1, 2), (1, 2), (10007, 1), 5]).at, 2)
        self.assertEqual(raised(self, InvalidVector, Space, LEAST, 2, ["ab", True]).at, 0)

    def test_vectors_of_the_size_zero(self):
        self.assertEqual(raised(self, InvalidVector, Space, LEAST, 0, [(), (0,)]).at, 1)
        self.assertEqual(raised(self, InvalidVector, Space, LEAST, 0, [(), [], ""]).at, 2)
        self.assertEqual(raised(self, InvalidVector, Space, LEAST, 0, [{}]).at, 0)

    def test_modulus_ahead_of_size_ahead_of_vectors(self):
        for make in self.makers():
            for modulus in self.WRONG_MODULI:
                for size in (-1, 61, True, None):
                    error = raised(self, InvalidModulus, make, modulus, size)
                    self.assertEqual(sameness(error.given), sameness(modulus))
        for vectors in ([None], [(1, 2, 3)], [(1, 20000)]):
            self.assertEqual(raised(self, InvalidModulus, Space, 10008, 2, vectors).given, 10008)
            self.assertEqual(raised(self, InvalidModulus, Space, 10008, 61, vectors).given, 10008)
            self.assertEqual(raised(self, InvalidSize, Space, LEAST, 61, vectors).given, 61)
            self.assertIs(raised(self, InvalidSize, Space, LEAST, True, vectors).given, True)
        self.assertEqual(raised(self, InvalidSize, Space, LEAST, 61, [(0,) * 61]).given, 61)

    def test_each_length_is_checked_also_behind_good_ones(self):
        for size in (1, 3, 60):
            for other in (0, size - 1, size + 1):
                rows = [(1,) * size] * 5 + [(1,) * other]
                self.assertEqual(raised(self, InvalidVector, Space, LEAST, size, rows).at, 5)


if __name__ == "__main__":
    unittest.main()
