"""Moduli and their letters."""

from math import isqrt

from mendworth.errors import InvalidModulus, ZeroLetter

LEAST_MODULUS = 10007
GREATEST_MODULUS = 999983


def is_number(value):
    """Whether any value is a number."""
    # Python takes True and False for integers; the document does not.
    return isinstance(value, int) and not isinstance(value, bool)


def is_numeral(word):
    """Whether a string tells a number of at most six digits without leading zeros."""
    # All that is told in this way, a modulus, a size, an index or a letter, has no more digits.
    if not 1 <= len(word) <= 6 or not all(["0" <= digit <= "9" for digit in word]):
        return False
    return word == "0" or word[0] != "0"


def is_modulus(value):
    """Whether any value is a modulus: a prime from LEAST_MODULUS to GREATEST_MODULUS."""
    if not is_number(value) or value < LEAST_MODULUS or value > GREATEST_MODULUS:
        return False
    for divisor in range(2, isqrt(value) + 1):
        if value % divisor == 0:
            return False
    return True


def check_modulus(modulus):
    """Raises an error unless a value is a modulus."""
    if not is_modulus(modulus):
        raise InvalidModulus(modulus)


def is_letter(value, modulus):
    """Whether any value is a letter of a modulus."""
    return is_number(value) and 0 <= value < modulus


def inverse(number, modulus):
    """The letter whose product with a number is 1."""
    check_modulus(modulus)
    if number % modulus == 0:
        raise ZeroLetter()
    # Euclid's steps: `low` is at each time the number times `times`, modulo the modulus.
    high, low = modulus, number % modulus
    before, times = 0, 1
    while low != 1:
        quotient = high // low
        high, low = low, high - quotient * low
        before, times = times, before - quotient * times
    return times % modulus
