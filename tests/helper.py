"""What several tests need: values of all kinds, and a second, plain way to tell spaces."""

import random

LEAST = 10007
GREATEST = 999983

NO_NUMBERS = (None, True, False, "", "10007", "a", (), (1,), [], [10007], {}, {10007: 1}, [[(None, {"a": [1]})]])

# Each is no vector of two letters of the modulus 10007.
NO_PAIRS = (None, True, False, 0, 7, 10007, "", "12", "ab", {}, {0: 1, 1: 2}, {1: 0, 2: 0}, (), [], (1,), [1],
            (1, 2, 3), [0, 0, 0], (-1, 0), (0, -1), (10007, 0), [0, 10007], (10 ** 30, 0), (True, 0), (0, True),
            [False, 0], [0, False], (None, 1), (1, None), ("1", "2"), [1, "2"], ((1,), (2,)), [[1, 2]], [[0], [0]],
            ((0, 0), (0, 0)), [1, {}], [{"a": 1}, 1])


def sameness(value):
    """A text that two values share only if they are equal and of the same kinds at any depth."""
    return repr(value)


def luck(seed):
    """A row of random numbers that is the same in each run."""
    return random.Random(seed)


def random_rows(dice, modulus, size, many):
    return [[dice.randrange(modulus) for _ in range(size)] for _ in range(many)]


def summed(modulus, size, factors, vectors):
    """The sum of vectors times factors."""
    return tuple(sum(factor * vector[at] for factor, vector in zip(factors, vectors, strict=True)) % modulus
                 for at in range(size))


def rank_of(modulus, vectors):
    """The rank of vectors, by plain elimination column by column."""
    rows = [list(vector) for vector in vectors]
    rank = 0
    for column in range(len(rows[0]) if rows else 0):
        found = next((at for at in range(rank, len(rows)) if rows[at][column]), None)
        if found is None:
            continue
        rows[rank], rows[found] = rows[found], rows[rank]
        one = pow(rows[rank][column], -1, modulus)
        for at in range(rank + 1, len(rows)):
            times = rows[at][column] * one
            rows[at] = [(a - times * b) % modulus for a, b in zip(rows[at], rows[rank])]
        rank += 1
    return rank


def is_within(modulus, vector, vectors):
    """Whether a vector is a sum of multiples of vectors."""
    return rank_of(modulus, [*vectors, vector]) == rank_of(modulus, vectors)


def raised(test, error, call, *values, **named):
    """The error of this very class that a call must raise."""
    with test.assertRaises(error) as caught:
        call(*values, **named)
    test.assertIs(caught.exception.__class__, error)
    return caught.exception
