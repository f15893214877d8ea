"""The worth of lots: how long a file they still determine behind the falls of keepers.

A table by places has a number for each lot. The place of a lot is a number whose bits tell the keepers that it has,
the lowest bit the first one of the book.
"""

from mendworth.books import check_known, choices
from mendworth.errors import DuplicateName, InvalidCount, InvalidFalls, InvalidSize
from mendworth.letters import is_number

MOST_FALLS = 9


def check_lot(book, lot):
    """Raises an error for the first value that is no name of the book, then for the first that occurs earlier."""
    for name in lot:
        check_known(book, name)
    for at, name in enumerate(lot):
        if name in lot[:at]:
            raise DuplicateName(name)


def check_falls(falls):
    """Raises an error unless a value is a number of falls or None."""
    if falls is not None and (not is_number(falls) or not 0 <= falls <= MOST_FALLS):
        raise InvalidFalls(falls)


def as_told(book, lot):
    """A lot in any order as it is told: a tuple in the order of the book."""
    return tuple([name for name in book if name in lot])


def lots_by_place(book):
    """All lots as they are told, by places."""
    lots = [()]
    for name in book:
        lots = lots + [(*lot, name) for lot in lots]
    return lots


def lots_by_length(book):
    """All lots as they are told, shorter ones first, equally long ones by the positions of their names."""
    return [tuple(names) for many in range(len(book) + 1) for names in choices(book.names(), many)]


def place_of(book, lot):
    """The place of a lot in any order."""
    return sum([1 << at for at, name in enumerate(book) if name in lot])


def has_keeper(place, at):
    """Whether the lot of a place has the keeper with an index."""
    return place >> at & 1 == 1


def place_without(place, at):
    """The place of a lot without the keeper with an index, which it has."""
    return place - (1 << at)


def sent_from_outside(book, call):
    """How many letters the helpers of a call outside each lot send, by places."""
    sums = [sum([call[helper] for helper in call])]
    for name in book:
        sums = sums + [total - call.get(name, 0) for total in sums]
    return sums


def kept_within(book):
    """How many letters each lot keeps, by places."""
    sums = [0]
    for name in book:
        sums = sums + [total + book.keep(name) for total in sums]
    return sums


def brought_by(book, name):
    """What a keeper brings to each lot, by places; to a lot that has it, what it brings to the rest of it."""
    whole = [book.keep(name)] * (1 << len(book))
    sent = [sent_from_outside(book, call) for call in book.calls(name)]
    return [min(column) for column in zip(whole, *sent)]


def least_with_one_fall_more(sums, bringing, place):
    """The least sum for the lot of a place, if the last one of its keepers falls behind what the sums allow."""
    least = sums[place]
    for at, brings in enumerate(bringing):
        if has_keeper(place, at):
            rest = place_without(place, at)
            least = min(least, sums[rest] + brings[rest])
    return least


def sums_up_to(book, falls):
    """For at most 0, 1, to so many falls the least sum along an order of the keepers of each lot, by places."""
    check_falls(falls)
    bringing = [brought_by(book, name) for name in book]
    rounds = [kept_within(book)]
    # No more keepers than there are can fall in one order, so as many falls stand for endless histories.
    for _ in range(len(book) if falls is None else falls):
        sums = rounds[-1]
        rounds.append([least_with_one_fall_more(sums, bringing, place) for place in range(len(sums))])
    return rounds


def least_of_greater(sums):
    """For each lot the least sum of a lot that has all its keepers, both by places."""
    least = list(sums)
    bit = 1
    while bit < len(sums):
        least = [min(least[place], least[place | bit]) for place in range(len(sums))]
        bit = 2 * bit
    return least


def worths_of(book, sums):
    """The table of the worths that the least sums along orders make."""
    return dict(zip(lots_by_place(book), least_of_greater(sums)))


def brought(book, name, *lot):
    """What a keeper brings to a lot."""
    check_lot(book, (name, *lot))
    return brought_by(book, name)[place_of(book, lot)]


def along(book, *order):
    """What keepers bring along an order."""
    check_lot(book, order)
    return sum([brought_by(book, name)[place_of(book, order[:at])] for at, name in enumerate(order)])


def worth(book, *lot, falls=None):
    """The worth of a lot."""
    check_lot(book, lot)
    return worths(book, falls=falls)[as_told(book, lot)]


def worths(book, *, falls=None):
    """A table from all lots to their worths."""
    return worths_of(book, sums_up_to(book, falls)[-1])


def readers(book, size, *, falls=None):
    """The lots whose worth is at least a size and within which no lot is enough, shorter ones first."""
    if not is_number(size) or size < 1:
        raise InvalidSize(size)
    table = worths(book, falls=falls)
    for lot in lots_by_length(book):
        # No lot has more than a greater one, so those with one keeper less stand for all within it.
        if table[lot] >= size and all([table[lot[:at] + lot[at + 1:]] < size for at in range(len(lot))]):
            yield lot


def longest_file(book, *lots, falls=None):
    """The least of the worths of some lots."""
    if not lots:
        raise InvalidCount(0)
    return min([worth(book, *lot, falls=falls) for lot in lots])
