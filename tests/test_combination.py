import unittest

from mendworth.errors import InvalidModulus, InvalidVector
from mendworth.spaces import combination
from tests.helper import (GREATEST, LEAST, NO_NUMBERS, NO_PAIRS, is_within, luck, raised, random_rows, sameness,
                          summed)

NO_VECTORS = (None, True, False, 0, 7, LEAST, "", "12", {}, {0: 1}, (-1,), [0, -1], (LEAST, 0), [0, LEAST], (True, 0),
              [0, False], (None,), ["1"], [[1, 2]], ((1,), (2,)), [{}])


class Combination(unittest.TestCase):
    def check(self, modulus, vectors, target):
        found = combination(modulus, vectors, target)
        self.assertIs(found.__class__, list)
        self.assertEqual(len(found), len(vectors))
        self.assertTrue(all(letter.__class__ is int and 0 <= letter < modulus for letter in found))
        self.assertEqual(summed(modulus, len(target), found, vectors), tuple(target))

    def test_the_only_ones(self):
        self.assertEqual(combination(LEAST, [(1, 0), (0, 1)], (5, 6)), [5, 6])
        self.assertEqual(combination(LEAST, [[2, 0], (1, 1)], [3, 1]), [1, 1])
        self.assertEqual(combination(LEAST, [(0, 0, 2), (3, 0, 0), (1, 1, 1)], (4, 1, 1)), [0, 1, 1])
        self.assertEqual(combination(LEAST, [(2, 4)], (1, 2)), [5004])
        self.assertEqual(combination(LEAST, [(10006,)], (1,)), [10006])
        self.assertEqual(sameness(combination(10009, ((2,),), (1,))), "[5005]")

    def test_outside(self):
        self.assertIsNone(combination(LEAST, [(1, 0)], (0, 1)))
        self.assertIsNone(combination(LEAST, [(1, 2), (2, 4)], (1, 3)))
        self.assertIsNone(combination(LEAST, [(1, 2, 0), (0, 1, 0)], (0, 0, 1)))
        self.assertIsNone(combination(LEAST, [(0, 0)], (0, 5)))
        self.assertIsNone(combination(10009, [(1, 5004)], (2, 1)))
        self.check(LEAST, [(1, 5004)], (2, 1))

    def test_no_vectors(self):
        for vectors in ([], ()):
            for target in ((), [], (0,), [0, 0], (0,) * 60):
                self.assertEqual(sameness(combination(LEAST, vectors, target)), "[]")
            for target in ((1,), [0, 5], (0,) * 59 + (1,)):
                self.assertIsNone(combination(LEAST, vectors, target))

    def test_vectors_of_no_letters(self):
        for vectors in ([()], [(), []], ([],) * 60):
            for target in ((), []):
                self.check(LEAST, vectors, target)

    def test_vectors_of_zeros(self):
        self.check(LEAST, [(0, 0), (0, 0)], (0, 0))
        self.check(LEAST, [(0, 0), (1, 2), (0, 0)], (3, 6))
        self.assertIsNone(combination(LEAST, [(0, 0), (1, 2), (0, 0)], (3, 7)))

    def test_vectors_twice_and_sums(self):
        self.check(LEAST, [(1, 2), (1, 2)], (3, 6))
        self.check(LEAST, [(1, 2), (1, 2), (2, 4), (1, 2)], [10006, 10005])
        self.check(LEAST, [(1, 0), (0, 1), (1, 1)], (8, 9))
        self.assertIsNone(combination(LEAST, [(1, 2), (1, 2)], (3, 5)))

    def test_target_of_zeros(self):
        self.check(LEAST, [(1, 2), (3, 4)], (0, 0))
        self.check(LEAST, [(1, 2), (2, 4)], [0, 0])

    def test_many_shapes(self):
        dice = luck(1)
        for modulus in (LEAST, 65537, GREATEST):
            for size in (0, 1, 2, 4, 7):
                for many in (0, 1, 2, 3, 5, 9):
                    vectors = random_rows(dice, modulus, size, many)
                    target = summed(modulus, size, [dice.randrange(modulus) for _ in vectors], vectors)
                    self.check(modulus, vectors, target)
                    self.check(modulus, tuple(map(tuple, vectors)), list(target))
                    for other in random_rows(dice, modulus, size, 2):
                        if is_within(modulus, other, vectors):
                            self.check(modulus, vectors, other)
                        else:
                            self.assertIsNone(combination(modulus, vectors, other))

    def test_lesser_ranks(self):
        dice = luck(2)
        for _ in range(100):
            size, many = dice.randrange(1, 7), dice.randrange(1, 7)
            vectors = [[dice.choice((0, 0, 0, 1, 2, 10006)) for _ in range(size)] for _ in range(many)]
            target = [dice.choice((0, 1, 2, 10006)) for _ in range(size)]
            if is_within(LEAST, target, vectors):
                self.check(LEAST, vectors, target)
            else:
                self.assertIsNone(combination(LEAST, vectors, target))
            within = summed(LEAST, size, [dice.randrange(LEAST) for _ in vectors], vectors)
            self.check(LEAST, vectors, within)

    def test_sixty_vectors_of_sixty_letters(self):
        dice = luck(3)
        vectors = random_rows(dice, GREATEST, 60, 60)
        for target in random_rows(dice, GREATEST, 60, 2):
            self.check(GREATEST, vectors, target)
        few = random_rows(dice, GREATEST, 60, 30)
        made = [summed(GREATEST, 60, [dice.randrange(GREATEST) for _ in few], few) for _ in range(60)]
        self.check(GREATEST, made, summed(GREATEST, 60, range(1, 31), few))
        self.assertIsNone(combination(GREATEST, made, vectors[0]))

    def test_equal_calls(self):
        vectors = random_rows(luck(4), LEAST, 2, 6)
        self.assertEqual(combination(LEAST, vectors, (1, 2)), combination(LEAST, [*vectors], [1, 2]))

    def test_what_is_passed_stays(self):
        vectors, target = [[1, 2, 3], [0, 5, 5], [1, 7, 8]], [4, 13, 17]
        self.check(LEAST, vectors, target)
        self.assertEqual([vectors, target], [[[1, 2, 3], [0, 5, 5], [1, 7, 8]], [4, 13, 17]])
        found = combination(LEAST, vectors, target)
        found.append(0)
        self.check(LEAST, vectors, target)

    def test_by_name(self):
        self.assertEqual(combination(target=(5, 6), vectors=[(1, 0), (0, 1)], modulus=LEAST), [5, 6])


class Errors(unittest.TestCase):
    def test_wrong_modulus(self):
        for modulus in (0, 1, 2, -7, 9973, 10006, 10008, 1000003, 10 ** 30, *NO_NUMBERS):
            for vectors, target in (([(1, 2)], (1, 2)), ([], ()), ([None], (1, 2)), ([(1, 2)], None), ([None], None)):
                error = raised(self, InvalidModulus, combination, modulus, vectors, target)
                self.assertEqual(sameness(error.given), sameness(modulus))

    def test_wrong_target(self):
        for target in NO_VECTORS:
            for vectors in ([], [(1, 2)], [()], [None], [(1, 2), 5]):
                error = raised(self, InvalidVector, combination, LEAST, vectors, target)
                self.assertEqual(sameness(error.at), "-1")

    def test_wrong_vector_at_each_place(self):
        for wrong in NO_PAIRS:
            for at in range(4):
                for kind in (list, tuple):
                    vectors = [(1, 2), [3, 4], (2, 4), [0, 0]]
                    vectors[at] = wrong
                    for target in ((1, 2), [0, 0]):
                        error = raised(self, InvalidVector, combination, LEAST, kind(vectors), target)
                        self.assertEqual(sameness(error.at), sameness(at))

    def test_the_target_tells_the_length(self):
        self.assertEqual(raised(self, InvalidVector, combination, LEAST, [(1, 2), (3, 4)], (1, 2, 3)).at, 0)
        self.assertEqual(raised(self, InvalidVector, combination, LEAST, [(1, 2, 3), (3, 4)], (1, 2, 3)).at, 1)
        self.assertEqual(raised(self, InvalidVector, combination, LEAST, [(), (0,)], ()).at, 1)
        self.assertEqual(raised(self, InvalidVector, combination, LEAST, [()], (0,)).at, 0)
        self.assertEqual(raised(self, InvalidVector, combination, LEAST, [[], ""], ()).at, 1)

    def test_first_wrong_vector_counts(self):
        self.assertEqual(raised(self, InvalidVector, combination, LEAST, [(1, 2), [3], None, (1, 2)], (1, 2)).at, 1)
        self.assertEqual(raised(self, InvalidVector, combination, LEAST, [(1, 2), (1, 2), (10007, 1), 5], (1, 2)).at, 2)

    def test_wrong_vectors_also_where_there_is_no_answer(self):
        self.assertEqual(raised(self, InvalidVector, combination, LEAST, [(0, 0), (1,)], (0, 1)).at, 1)


if __name__ == "__main__":
    unittest.main()
