"""Papers: what shows that worths are not greater, and not less, than they are told to be."""

from mendworth.books import is_index
from mendworth.errors import copied
from mendworth.letters import is_number
from mendworth.worths import (as_told, brought_by, check_lot, has_keeper, kept_within, lots_by_place, place_of,
                              place_without, sent_from_outside, sums_up_to, worths, worths_of)


def is_told_lot(book, value):
    """Whether any value is a lot as it is told."""
    return isinstance(value, tuple) and value == as_told(book, value)


def is_fall(book, value):
    """Whether any value is a fall of the book."""
    return (isinstance(value, tuple) and len(value) == 2 and value[0] in book
            and is_index(value[1], len(book.calls(value[0]))))


def is_history_within(book, group, value):
    """Whether any value is a list of falls of different keepers of a group."""
    if not isinstance(value, (list, tuple)) or not all([is_fall(book, item) for item in value]):
        return False
    names = [name for name, at in value]
    return all([name in group for name in names]) and len(set(names)) == len(names)


def is_table(book, value):
    """Whether any value is a table of numbers of 0 or more for all lots and for nothing else."""
    lots = lots_by_place(book)
    return (isinstance(value, dict) and len(value) == len(lots)
            and all([lot in value and is_number(value[lot]) and value[lot] >= 0 for lot in lots]))


def numbers_by_place(book, table):
    """The numbers of a table, by places."""
    return [table[lot] for lot in lots_by_place(book)]


def steps_up(many):
    """For each keeper in each lot of so many: the place of the lot without it, the place of the lot, its index."""
    return [(place_without(place, at), place, at) for place in range(1 << many) for at in range(many)
            if has_keeper(place, at)]


def are_within(numbers, limits):
    """Whether each number is at most the limit at the same place."""
    return all([number <= limit for number, limit in zip(numbers, limits)])


def are_rising(book, numbers):
    """Whether no lot has more than a lot with one more keeper."""
    return all([numbers[less] <= numbers[more] for less, more, at in steps_up(len(book))])


def are_brought(book, numbers, before):
    """Whether each lot with a keeper more has at most what the lot had before and what this keeper brings to it."""
    bringing = [brought_by(book, name) for name in book]
    return all([numbers[more] <= before[less] + bringing[at][less] for less, more, at in steps_up(len(book))])


def is_floor(book, value):
    """Whether any value is a floor."""
    if not is_table(book, value):
        return False
    numbers = numbers_by_place(book, value)
    return numbers[0] == 0 and are_rising(book, numbers) and are_brought(book, numbers, numbers)


def is_step_floor(book, value):
    """Whether any value is a list of tables that are a step floor."""
    if not isinstance(value, (list, tuple)) or not value or not all([is_table(book, table) for table in value]):
        return False
    rounds = [numbers_by_place(book, table) for table in value]
    steps = list(zip(rounds, rounds[1:]))
    return (all([are_rising(book, numbers) for numbers in rounds])
            and are_within(rounds[0], kept_within(book))
            and all([are_within(numbers, before) and are_brought(book, numbers, before) for before, numbers in steps]))


class Paper:
    """The base class of all papers."""

    KIND = "open"

    def __init__(self, book):
        self._book = book

    @property
    def book(self):
        """The book that the paper speaks of."""
        return self._book

    def holds(self):
        """Whether what the paper tells is so."""
        return False

    def told(self):
        """What the paper tells, in short."""
        return self.KIND

    def __repr__(self):
        return f"Paper({self.told()})"


class Bound(Paper):
    """A history of falls within a group that shows how little a lot in it is worth."""

    KIND = "bound"

    def __init__(self, book, lot, group, falls):
        super().__init__(book)
        self._few = copied(lot)
        self._group = copied(group)
        self._history = copied(falls)

    @property
    def few(self):
        """The lot that is bounded."""
        return copied(self._few)

    @property
    def group(self):
        """The lot within which keepers fall."""
        return copied(self._group)

    def falls(self):
        """The list of the falls, in the order in which the keepers fall."""
        return copied(self._history)

    def holds(self):
        """Whether the lots are as told, the group has all of the lot, and the falls are falls within the group."""
        return (is_told_lot(self._book, self._few) and is_told_lot(self._book, self._group)
                and all([name in self._group for name in self._few])
                and is_history_within(self._book, self._group, self._history))

    def letters(self):
        """What the keepers of the group bring behind this history; the paper must hold."""
        falling = [name for name, at in self._history]
        ahead = [name for name in self._group if name not in falling]
        total = sum([self._book.keep(name) for name in ahead])
        for name, at in self._history:
            sent = sent_from_outside(self._book, self._book.call(name, at))
            total = total + min(self._book.keep(name), sent[place_of(self._book, ahead)])
            ahead = ahead + [name]
        return total

    def told(self):
        """What the paper tells, in short: how many falls there are."""
        many = len(self._history) if isinstance(self._history, (list, tuple)) else 0
        return f"{self.KIND} {many}"


class Floor(Paper):
    """A table that shows how much each lot is worth at least."""

    KIND = "floor"

    def __init__(self, book, table):
        super().__init__(book)
        self._table = copied(table)

    def table(self):
        """The table."""
        return copied(self._table)

    def holds(self):
        """Whether the table is a floor."""
        return is_floor(self._book, self._table)


class StepFloor(Floor):
    """Tables that show how much each lot is worth at least with at most 0, 1 and more falls."""

    KIND = "step floor"

    def __init__(self, book, tables):
        super().__init__(book, tables)

    def table(self):
        """The list of the tables."""
        return super().table()

    @property
    def most(self):
        """With how many falls at most the last table reckons."""
        return len(self._table) - 1 if isinstance(self._table, (list, tuple)) else -1

    def holds(self):
        """Whether the tables are a step floor."""
        return is_step_floor(self._book, self._table)

    def told(self):
        """What the paper tells, in short: with how many falls it reckons."""
        return f"{self.KIND} {self.most}"


def last_to_fall(before, bringing, place, number):
    """The index of the keeper by whose fall, the last one, the lot of a place has this number."""
    sums = [(at, before[place_without(place, at)] + brings[place_without(place, at)])
            for at, brings in enumerate(bringing) if has_keeper(place, at)]
    found = [at for at, total in sums if total == number]
    return found[0]


def least_call(book, name, place):
    """The index of a call by which a keeper brings least to the lot of a place."""
    sent = [sent_from_outside(book, call)[place] for call in book.calls(name)]
    return sent.index(min(sent))


def history_along(book, rounds, place):
    """Falls, at most one for each round behind the first one, by which the lot of a place has its least sum."""
    names = book.names()
    bringing = [brought_by(book, name) for name in book]
    history = []
    for before, numbers in reversed(list(zip(rounds, rounds[1:]))):
        # A fall is needed only where it makes the sum less; so none of a steady keeper is.
        if numbers[place] < before[place]:
            at = last_to_fall(before, bringing, place, numbers[place])
            place = place_without(place, at)
            history = [(names[at], least_call(book, names[at], place))] + history
    return history


def bound(book, *lot, falls=None):
    """A Bound for a lot that holds, with as many letters as the worth of the lot."""
    check_lot(book, lot)
    rounds = sums_up_to(book, falls)
    sums = rounds[-1]
    few = place_of(book, lot)
    greater = [place for place in range(len(sums)) if place | few == place]
    group = min(greater, key=lambda place: sums[place])
    return Bound(book, as_told(book, lot), lots_by_place(book)[group], history_along(book, rounds, group))


def floor(book, *, falls=None):
    """A Floor with the worths, or a StepFloor with those with at most 0, 1, to so many falls."""
    if falls is None:
        return Floor(book, worths(book))
    return StepFloor(book, [worths_of(book, sums) for sums in sums_up_to(book, falls)])
