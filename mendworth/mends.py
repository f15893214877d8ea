"""Mends: what is sent and kept when a keeper falls, and how it is chosen such that the code stays sound.

A lot without the fallen keeper needs, with the newcomer, the rank of the worth of both, or of the size if that is
less. It is short as long as it has not this rank. Why no lot stays short behind a chosen mend:

Each vector that is sent widens every short lot that has not all vectors of the helper. Add to a lot all helpers whose
vectors are in its space behind all that is sent: the greater lot has the same space there. If it was short all the
time, then each vector from outside of it has widened it, and it has got as many letters as the keeper brings to it,
or more. In a sound code this is all that it needs, and so all that the lot needs.

Each vector that is kept widens every short lot, since none has all that is sent. So a lot gets what it needs, or as
many letters as the newcomer keeps; and the keeper brings no more.
"""

from mendworth.codes import Code, bases_of_lots, check_bases, ranks_of_sound_code
from mendworth.errors import InvalidFall, Steady, copied
from mendworth.papers import Paper, is_fall
from mendworth.spaces import are_vectors_of, basis_with, cleared, powers, sum_of
from mendworth.worths import as_told


def are_sendings(code, call, value):
    """Whether any value has for each helper of a call, and for nothing else, factors of so many vectors."""
    return (isinstance(value, dict) and len(value) == len(call)
            and all([are_vectors_of(value.get(helper), call[helper], code.modulus, code.book.keep(helper))
                     for helper in call]))


def are_keepings(code, name, call, value):
    """Whether any value has factors of what is sent by a call for each vector of its keeper."""
    many = sum([call[helper] for helper in call])
    return are_vectors_of(value, code.book.keep(name), code.modulus, many)


def vectors_sent(code, helpers, sent):
    """The vectors that helpers send by factors, in one list."""
    return [sum_of(factors, code.vectors(helper), code.modulus) for helper in helpers for factors in sent[helper]]


class Mend(Paper):
    """How a fall of a keeper of a code is mended, told by factors."""

    KIND = "mend"

    def __init__(self, code, name, at, sent, kept):
        super().__init__(code.book)
        self._before = code
        self._keeper = copied(name)
        self._place = copied(at)
        self._sent = copied(sent)
        self._kept = copied(kept)

    @property
    def before(self):
        """The code ahead of the fall."""
        return self._before

    @property
    def keeper(self):
        """The name of the keeper that falls."""
        return copied(self._keeper)

    @property
    def place(self):
        """The index of the call that is used."""
        return copied(self._place)

    def sent(self):
        """A table from the helpers to the lists of the factors of what they send."""
        return copied(self._sent)

    def kept(self):
        """The list of the factors of what the newcomer keeps."""
        return copied(self._kept)

    def messages(self):
        """A table from the helpers to the lists of the vectors that they send; the factors must fit."""
        return {helper: vectors_sent(self._before, [helper], self._sent)
                for helper in as_told(self._book, self._sent)}

    def after(self):
        """The code behind the mend; the factors must fit."""
        sent = vectors_sent(self._before, as_told(self._book, self._sent), self._sent)
        table = self._before.table()
        table[self._keeper] = [sum_of(factors, sent, self._before.modulus) for factors in self._kept]
        return Code(self._book, self._before.modulus, self._before.size, table)

    def holds(self):
        """Whether the factors fit and the code behind the mend is sound."""
        if not is_fall(self._book, (self._keeper, self._place)):
            return False
        call = self._book.call(self._keeper, self._place)
        return (are_sendings(self._before, call, self._sent)
                and are_keepings(self._before, self._keeper, call, self._kept)
                and self.after().is_sound())

    def told(self):
        """What the paper tells, in short: the fall."""
        return f"{self.KIND} {self._keeper} {self._place}"


def short_lots(book, size, name, bases):
    """The lots without a keeper whose rank is too low with it, as long as it adds nothing to their reduced bases.

    Each one is told by the rank that it needs with the keeper and by its basis.
    """
    least = ranks_of_sound_code(book, size)
    found = [(least[as_told(book, (*lot, name))], bases[lot]) for lot in bases if name not in lot]
    return [(rank, basis) for rank, basis in found if len(basis) < rank]


def is_within(vectors, basis, modulus):
    """Whether the space of a reduced basis has all of these vectors."""
    for vector in vectors:
        if any(cleared(vector, basis, modulus)):
            return False
    return True


def short_lots_with(lots, vector, vectors, modulus):
    """The lots that stay short when each one has one more vector, which is a sum of some vectors.

    None if it does not widen a lot that has not all of these vectors.
    """
    found = []
    for rank, basis in lots:
        rest = cleared(vector, basis, modulus)
        if any(rest):
            found.append((rank, basis_with(basis, rest, modulus)))
        elif is_within(vectors, basis, modulus):
            found.append((rank, basis))
        else:
            return None
    return [(rank, basis) for rank, basis in found if len(basis) < rank]


def outer_sum(vectors, lots, modulus, first):
    """Factors for a sum of vectors that widens each short lot that has not all of these; the lots that stay short."""
    base = first
    while True:
        # A space that has not all of n vectors has at most n - 1 of these sums. So 64 lots and 36 vectors leave
        # more than 7700 of them even for the least modulus.
        factors = powers(base, len(vectors), modulus)
        behind = short_lots_with(lots, sum_of(factors, vectors, modulus), vectors, modulus)
        if behind is not None:
            return list(factors), behind
        base = base + 1


def outer_sums(vectors, many, lots, modulus):
    """Factors for so many sums of vectors, each one outer behind those ahead of it; the lots that stay short."""
    rows = []
    for at in range(many):
        row, lots = outer_sum(vectors, lots, modulus, at + 1)
        rows.append(row)
    return rows, lots


def chosen_sendings(code, call, lots):
    """For each helper of a call, in order, the factors of what it sends."""
    sent = {}
    for helper in as_told(code.book, call):
        rows, lots = outer_sums(code.vectors(helper), call[helper], lots, code.modulus)
        sent[helper] = rows
    return sent


def chosen_mend(code, name, at, bases):
    """A mend of a fall that holds; the lots without the keeper are not weak and have these reduced bases."""
    call = code.book.call(name, at)
    lots = short_lots(code.book, code.size, name, bases)
    sent = chosen_sendings(code, call, lots)
    vectors = vectors_sent(code, list(sent), sent)
    kept, _ = outer_sums(vectors, code.book.keep(name), lots, code.modulus)
    return Mend(code, name, at, sent, kept)


def mend(code, name, at=0):
    """A mend of a fall that holds."""
    if not code.book.calls(name):
        raise Steady(name)
    code.book.call(name, at)
    bases = bases_of_lots(code)
    check_bases(code.book, code.size, bases)
    return chosen_mend(code, name, at, bases)


def codes_behind(code, *falls):
    """The codes behind each fall of a history, each mended in turn."""
    for at, fall in enumerate(falls):
        if not is_fall(code.book, fall):
            raise InvalidFall(at)
        name, place = fall
        code = mend(code, name, place).after()
        yield code


def admission(code, name, keep, call, *calls):
    """A mend that makes the vectors of one more keeper."""
    book = code.book.with_keeper(name, keep, call, *calls)
    bases = bases_of_lots(code)
    check_bases(code.book, code.size, bases)
    table = code.table()
    table[name] = [(0,) * code.size] * keep
    return chosen_mend(Code(book, code.modulus, code.size, table), name, 0, bases)
