"""What several tests need: values of all kinds, and a second, plain way to tell what the package tells."""

import random
from itertools import combinations, permutations

from mendworth.worths import worths

LEAST = 10007
GREATEST = 999983

NO_NUMBERS = (None, True, False, "", "10007", "a", (), (1,), [], [10007], {}, {10007: 1}, [[(None, {"a": [1]})]])

# Each is no vector of two letters of the modulus 10007.
NO_PAIRS = (None, True, False, 0, 7, 10007, "", "12", "ab", {}, {0: 1, 1: 2}, {1: 0, 2: 0}, (), [], (1,), [1],
            (1, 2, 3), [0, 0, 0], (-1, 0), (0, -1), (10007, 0), [0, 10007], (10 ** 30, 0), (True, 0), (0, True),
            [False, 0], [0, False], (None, 1), (1, None), ("1", "2"), [1, "2"], ((1,), (2,)), [[1, 2]], [[0], [0]],
            ((0, 0), (0, 0)), [1, {}], [{"a": 1}, 1])

# Each is no number from 1 to 6.
NO_AMOUNTS = (None, True, False, 0, -1, 7, 60, -10 ** 30, 10 ** 30, "", "1", "a", (), (1,), [], [1], {}, {1: 1},
              [[(None, {"a": [1]})]])

# Each is no name, whatever the book.
NO_NAMES = (None, True, False, 0, 1, "", "A", "aB", "Ab", "a1", "1", "a b", " a", "a ", "a\n", "\n", "a-b", "a_b",
            "a=1", "`", "{", "aaaaaaaaa", "abcdefghi", "a" * 9000, (), ("a",), [], ["a"], {}, {"a": 1},
            [[(None, {"a": [1]})]])


def sameness(value):
    """A text that two values share only if they are equal and of the same kinds at any depth."""
    return repr(value)


def kinds(value):
    """As sameness, but in whichever order the keys of dicts were put in."""
    if isinstance(value, dict):
        return "{" + ", ".join(sorted(f"{kinds(key)}: {kinds(value[key])}" for key in value)) + "}"
    if isinstance(value, (list, tuple)):
        return value.__class__.__name__ + "(" + ", ".join(kinds(item) for item in value) + ")"
    return sameness(value)


def luck(seed):
    """A row of random numbers that is the same in each run."""
    return random.Random(seed)


def random_rows(dice, modulus, size, many):
    return [[dice.randrange(modulus) for _ in range(size)] for _ in range(many)]


def summed(modulus, size, factors, vectors):
    """The sum of vectors times factors."""
    return tuple(sum(factor * vector[at] for factor, vector in zip(factors, vectors, strict=True)) % modulus
                 for at in range(size))


def rank_of(modulus, vectors):
    """The rank of vectors, by plain elimination column by column."""
    rows = [list(vector) for vector in vectors]
    rank = 0
    for column in range(len(rows[0]) if rows else 0):
        found = next((at for at in range(rank, len(rows)) if rows[at][column]), None)
        if found is None:
            continue
        rows[rank], rows[found] = rows[found], rows[rank]
        one = pow(rows[rank][column], -1, modulus)
        for at in range(rank + 1, len(rows)):
            times = rows[at][column] * one
            rows[at] = [(a - times * b) % modulus for a, b in zip(rows[at], rows[rank])]
        rank += 1
    return rank


def is_within(modulus, vector, vectors):
    """Whether a vector is a sum of multiples of vectors."""
    return rank_of(modulus, [*vectors, vector]) == rank_of(modulus, vectors)


def raised(test, error, call, *values, **named):
    """The error of this very class that a call must raise."""
    with test.assertRaises(error) as caught:
        call(*values, **named)
    test.assertIs(caught.exception.__class__, error)
    return caught.exception


def lucky_keepers(dice, many, most_calls, most_letters=6):
    """Random keepers of a book, some of them steady."""
    names = sorted(dice.sample(["a", "b", "c", "dd", "ed", "f", "longname", "z"], many), key=lambda name: dice.random())
    return [(name, dice.randint(1, most_letters),
             [{helper: dice.randint(1, most_letters) for helper in lucky_helpers(dice, names, name)}
              for _ in range(dice.randint(0, most_calls) if many > 1 else 0)]) for name in names]


def lucky_helpers(dice, names, name):
    others = [other for other in names if other != name]
    return dice.sample(others, dice.randint(1, len(others)))


def full_keepers(dice, most_letters=6):
    """Seven keepers with twenty calls each."""
    names = list("gfedcba")
    return [(name, dice.randint(1, most_letters),
             [{helper: dice.randint(1, most_letters) for helper in lucky_helpers(dice, names, name)}
              for _ in range(20)]) for name in names]


def lots_in_order(names):
    """All lots, shorter ones first, equally long ones by the positions of the names."""
    return [lot for many in range(len(names) + 1) for lot in combinations(names, many)]


def brings(keepers, name, lot):
    """What a keeper brings to a lot, as the document defines it."""
    _, keep, calls = next(keeper for keeper in keepers if keeper[0] == name)
    return min([keep] + [sum(call[helper] for helper in call if helper not in lot) for call in calls])


def least_sums(keepers, falls):
    """For each lot, as a frozenset, the least sum along an order in which some keepers stand ahead and do not fall."""
    names = [keeper[0] for keeper in keepers]
    keeps = {name: keep for name, keep, _ in keepers}
    known = {(name, lot): brings(keepers, name, lot) for name in names for lot in map(frozenset, lots_in_order(names))}
    most = len(names) if falls is None else falls
    found = {}
    for lot in lots_in_order(names):
        sums = []
        for many in range(min(most, len(lot)) + 1):
            for order in permutations(lot, many):
                ahead = frozenset(lot) - frozenset(order)
                total = sum(keeps[name] for name in ahead)
                for name in order:
                    total += known[name, ahead]
                    ahead |= {name}
                sums.append(total)
        found[frozenset(lot)] = min(sums)
    return found


def plain_worths(keepers, falls=None):
    """The worths of all lots, as the document defines them."""
    sums = least_sums(keepers, falls)
    return {lot: min(sums[greater] for greater in sums if greater >= set(lot))
            for lot in lots_in_order([keeper[0] for keeper in keepers])}


# Each is no modulus.
NO_MODULI = (*NO_NUMBERS, 0, 1, 2, 7, -10007, 10006, 10008, 10013, 1000003, 999981, 10 ** 30 + 57)


def no_rows(modulus, many, size):
    """Values of all kinds, each of which is no list of so many vectors of this length."""
    row = [1] * size
    rows = [list(row) for _ in range(many)]
    wrong = [row[:-1], [*row, 0], None, True, False, 0, 7, "", "1" * size, {}, {0: 1}, {at: 1 for at in range(size)}]
    wrong += [[*row[:at], letter, *row[at + 1:]] for at in range(size)
              for letter in (-1, modulus, 10 ** 30, True, False, None, "1", (), [1], {})]
    return [None, True, False, 0, 1, many, "", "1", "1" * many, {}, {0: row}, {at: row for at in range(many)},
            rows[1:], [*rows, row], row * 7, [[(None, {"a": [1]})]],
            *[[*rows[:at], value, *rows[at + 1:]] for at in range(many) for value in wrong],
            *[tuple([*rows[:at], value, *rows[at + 1:]]) for at in range(many) for value in wrong]]


def rows_in(code, lot):
    """The vectors of a lot of a code, in one list."""
    return [vector for name in lot for vector in code.table()[name]]


def least_ranks(code):
    """The rank that each lot must have if the code is to be sound."""
    table = worths(code.book)
    return {lot: min(table[lot], code.size) for lot in table}


def plain_weak_lots(code):
    """All weak lots of a code, in the order of readers."""
    least = least_ranks(code)
    return [lot for lot in lots_in_order(code.book.names()) if rank_of(code.modulus, rows_in(code, lot)) < least[lot]]


def lucky_rows(dice, book, modulus, size):
    return {name: random_rows(dice, modulus, size, book.keep(name)) for name in book}


def lucky_falls(dice, book, many):
    """A random history; no falls if no keeper has a call."""
    pairs = [(name, at) for name in book for at in range(len(book.calls(name)))]
    return [dice.choice(pairs) for _ in range(many)] if pairs else []


def letters_of(code, file):
    """What the keepers keep of a file."""
    return {name: [sum(a * b for a, b in zip(row, file, strict=True)) % code.modulus for row in rows]
            for name, rows in code.table().items()}


def code_told(code):
    return None if code is None else [code.modulus, code.size, code.book.text(), code.table()]


def held_by(vault):
    """All that a vault tells of its book, its code and its letters."""
    letters = None if vault.present is None else {name: vault.letters(name) for name in vault.book}
    return kinds([vault.modulus, vault.book.text(), code_told(vault.present), letters])


def told_by(vault):
    """All that a vault tells."""
    return kinds([held_by(vault), vault.history(), vault.busy, vault.limit, vault.kept(), vault.computed])
