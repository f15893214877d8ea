import unittest

from mendworth import letters
from mendworth.errors import InvalidModulus, ZeroLetter
from mendworth.letters import inverse, is_letter, is_modulus
from tests.helper import GREATEST, LEAST, NO_NUMBERS, luck, raised, sameness

HIGHEST = 1000100


def primes_below(end):
    marks = bytearray([1]) * end
    marks[:2] = b"\0\0"
    for number in range(2, end):
        if number * number >= end:
            break
        if marks[number]:
            marks[number * number::number] = bytes(len(range(number * number, end, number)))
    return [number for number in range(end) if marks[number]]


PRIMES = primes_below(HIGHEST)


class Moduli(unittest.TestCase):
    def test_constants(self):
        self.assertEqual(sameness([letters.LEAST_MODULUS, letters.GREATEST_MODULUS]), "[10007, 999983]")

    def check(self, numbers):
        moduli = {prime for prime in PRIMES if LEAST <= prime <= GREATEST}
        for number in numbers:
            self.assertIs(is_modulus(number), number in moduli, number)

    def test_around_the_ends_of_the_range(self):
        self.check(range(-20, 12000))
        self.check(range(998000, HIGHEST))
        self.check((LEAST, GREATEST))
        self.assertIs(is_modulus(10007), True)
        self.assertIs(is_modulus(999983), True)

    def test_primes_just_outside(self):
        for prime in (2, 3, 5, 97, 9967, 9973, 1000003, 1000033, 1000037, 2 ** 61 - 1, 10 ** 30 + 57):
            self.assertIs(is_modulus(prime), False, prime)

    def test_some_within(self):
        self.check(range(100000, 101000))
        self.check(range(500000, 501000))
        self.check(range(LEAST, GREATEST, 97))

    def test_primes_and_the_numbers_beside_them(self):
        some = [prime for prime in PRIMES if LEAST < prime <= GREATEST][::50]
        for prime in some:
            self.assertIs(is_modulus(prime), True, prime)
            self.assertIs(is_modulus(prime - 1), False, prime - 1)
            self.assertIs(is_modulus(prime + 1), False, prime + 1)

    def test_products_of_two_primes(self):
        small = [prime for prime in PRIMES if prime < 1000]
        for at, prime in enumerate(small):
            for other in small[at:at + 3] + small[-1:]:
                self.assertIs(is_modulus(prime * other), False, prime * other)

    def test_products_that_pass_for_primes_in_short_tests(self):
        for number in (10585, 15841, 29341, 41041, 46657, 52633, 62745, 63973, 75361, 294409, 512461, 530881, 825265,
                       10261, 13741, 31621, 256999, 280601, 314821):
            self.assertIs(is_modulus(number), False, number)

    def test_zero_one_and_below(self):
        for number in (0, 1, -1, -2, -LEAST, -GREATEST, -10 ** 30):
            self.assertIs(is_modulus(number), False, number)

    def test_other_kinds(self):
        for value in NO_NUMBERS:
            self.assertIs(is_modulus(value), False, value)

    def test_by_name(self):
        self.assertIs(is_modulus(value=10009), True)


class Letters(unittest.TestCase):
    def test_both_ends(self):
        for modulus in (LEAST, 10009, GREATEST):
            for number in (0, 1, 2, modulus // 2, modulus - 2, modulus - 1):
                self.assertIs(is_letter(number, modulus), True, number)
            for number in (-1, -2, -modulus, modulus, modulus + 1, 2 * modulus, 10 ** 30, -10 ** 30):
                self.assertIs(is_letter(number, modulus), False, number)

    def test_depends_on_the_modulus(self):
        self.assertIs(is_letter(10007, 10007), False)
        self.assertIs(is_letter(10007, 10009), True)

    def test_other_kinds(self):
        for value in NO_NUMBERS:
            self.assertIs(is_letter(value, LEAST), False, value)

    def test_by_name(self):
        self.assertIs(is_letter(modulus=LEAST, value=LEAST), False)
        self.assertIs(is_letter(modulus=LEAST, value=3), True)


class Inverse(unittest.TestCase):
    def check(self, number, modulus):
        letter = inverse(number, modulus)
        self.assertIs(letter.__class__, int)
        self.assertTrue(0 <= letter < modulus, (number, modulus, letter))
        self.assertEqual(number * letter % modulus, 1, (number, modulus))

    def test_letters(self):
        self.assertEqual([inverse(1, LEAST), inverse(2, LEAST), inverse(10006, LEAST)], [1, 5004, 10006])
        for number in range(1, LEAST):
            self.check(number, LEAST)

    def test_other_moduli(self):
        dice = luck(1)
        for modulus in (10009, 100003, 524287, GREATEST):
            for number in (1, 2, 3, modulus - 1, modulus - 2, *[dice.randrange(1, modulus) for _ in range(200)]):
                self.check(number, modulus)

    def test_any_number(self):
        dice = luck(2)
        for modulus in (LEAST, 65537, GREATEST):
            for number in (-1, -2, modulus + 1, 2 * modulus - 1, -modulus - 1, 10 ** 29, 10 ** 30 - 1, -10 ** 30 + 1,
                           10 ** 60 + 7, -10 ** 60, *[dice.randrange(-10 ** 30, 10 ** 30) for _ in range(200)]):
                if number % modulus:
                    self.check(number, modulus)

    def test_multiples_of_the_modulus(self):
        for modulus in (LEAST, GREATEST):
            for number in (0, modulus, -modulus, 2 * modulus, 10 ** 24 * modulus, -10 ** 40 * modulus):
                raised(self, ZeroLetter, inverse, number, modulus)

    def test_no_modulus(self):
        for modulus in (0, 1, -1, 2, 9973, 10006, 10008, 10011, 999981, 1000003, -10007, 10 ** 30 + 57, *NO_NUMBERS):
            for number in (1, 5, -7, 10 ** 30):
                error = raised(self, InvalidModulus, inverse, number, modulus)
                self.assertEqual(sameness(error.given), sameness(modulus))

    def test_no_modulus_comes_ahead_of_zero(self):
        for modulus in (0, 1, 2, 10006, 1000003, *NO_NUMBERS):
            error = raised(self, InvalidModulus, inverse, 0, modulus)
            self.assertEqual(sameness(error.given), sameness(modulus))
        self.assertEqual(raised(self, InvalidModulus, inverse, 10008, 10008).given, 10008)

    def test_by_name(self):
        self.assertEqual(inverse(modulus=LEAST, number=2), 5004)
        self.assertEqual(raised(self, InvalidModulus, inverse, number=LEAST, modulus=2).given, 2)


if __name__ == "__main__":
    unittest.main()
