"""Comparisons of books by the worths of their lots, and what a single call or letter does to them."""

from mendworth.books import MOST_LETTERS
from mendworth.errors import Differ
from mendworth.worths import brought_by, lots_by_length, worth, worths


def first_greater(book, table, other):
    """The first lot, shorter ones first, with a greater number in a table than in another one, or None."""
    greater = [lot for lot in lots_by_length(book) if table[lot] > other[lot]]
    return greater[0] if greater else None


class Comparison:
    """Which lots are worth more and which ones less in a first book than in another one."""

    WORDS = ("equal", "more", "less", "crossed")

    def __init__(self, one, other):
        if one.names() != other.names():
            raise Differ()
        table = worths(one)
        beside = worths(other)
        self._more = first_greater(one, table, beside)
        self._less = first_greater(one, beside, table)

    def more(self):
        """The first lot that is worth more in the first book, or None."""
        return self._more

    def less(self):
        """The first lot that is worth less in the first book, or None."""
        return self._less

    @property
    def word(self):
        """The word of WORDS for both books."""
        if self._less is None:
            return self.WORDS[0] if self._more is None else self.WORDS[1]
        return self.WORDS[2] if self._more is None else self.WORDS[3]

    def __bool__(self):
        return self._less is None

    def __repr__(self):
        return f"Comparison({self.word})"


def places_of_calls(book):
    """The pairs of a name and an index for all calls, in order."""
    return [(name, at) for name in book for at in range(len(book.calls(name)))]


def needless_calls(book):
    """The calls without each of which all worths stay, in order, as pairs of a name and an index."""
    table = worths(book)
    return [(name, at) for name, at in places_of_calls(book) if worths(book.without_call(name, at)) == table]


def trimmed(book):
    """The book behind the removal of each call, the last one first, without which all worths stay."""
    table = worths(book)
    places = places_of_calls(book)
    # Behind a call that is removed only calls move that have been looked at.
    for name, at in reversed(places):
        rest = book.without_call(name, at)
        if worths(rest) == table:
            book = rest
    return book


def spots(book):
    """All spots of a book at which there may be one letter more, in order."""
    found = []
    for name, keep, calls in book.keepers():
        if keep < MOST_LETTERS:
            found.append((name,))
        for at, call in enumerate(calls):
            found.extend([(name, at, helper) for helper in sorted(call) if call[helper] < MOST_LETTERS])
    return found


def with_letter(book, spot):
    """A book with one letter more at a spot; the call that has it becomes the last one of its keeper."""
    if len(spot) == 1:
        name = spot[0]
        return book.with_keep(name, book.keep(name) + 1)
    name, at, helper = spot
    call = book.call(name, at)
    # The order of the calls means nothing for worths.
    return book.without_call(name, at).with_call(name, {**call, helper: call[helper] + 1})


def helpful(book, *lot):
    """The spots at which one letter more raises the worth of a lot, in order."""
    least = worth(book, *lot)
    bringing = {name: brought_by(book, name) for name in book}
    found = []
    for spot in spots(book):
        changed = with_letter(book, spot)
        # Worths are made of what keepers bring; most letters of many calls change nothing of this.
        if brought_by(changed, spot[0]) != bringing[spot[0]] and worth(changed, *lot) > least:
            found.append(spot)
    return found
