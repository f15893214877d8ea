"""Codes: which sums of the letters of a file each keeper of a book keeps, and how much lots can tell of it."""

from mendworth.books import check_known
from mendworth.errors import Differ, InvalidRows, InvalidSize, Weak
from mendworth.letters import check_modulus, is_number
from mendworth.spaces import Space, are_vectors_of, powers, widened
from mendworth.worths import check_lot, lots_by_length, lots_by_place, worths


def check_length(book, size):
    """Raises an error unless a value is the length of a file that the keepers of a book can keep."""
    if not is_number(size) or not 1 <= size <= book.kept_by_all():
        raise InvalidSize(size)


def check_rows(book, modulus, size, rows):
    """Raises an error unless any value is a table of the vectors of all keepers and of nothing else."""
    told = rows if isinstance(rows, dict) else {}
    for name in sorted(told):
        check_known(book, name)
    for name in book:
        if not are_vectors_of(told.get(name), book.keep(name), modulus, size):
            raise InvalidRows(name)


def bases_of_lots(code):
    """A table from all lots to the reduced bases of their vectors."""
    bases = [[]]
    for name in code.book:
        vectors = code.vectors(name)
        bases = bases + [widened(basis, vectors, code.modulus) for basis in bases]
    return dict(zip(lots_by_place(code.book), bases))


def ranks_of_sound_code(book, size):
    """A table from all lots to the least ranks that they have in a sound code of a size."""
    table = worths(book)
    return {lot: min(table[lot], size) for lot in table}


def first_weak(book, size, bases):
    """The first weak lot of a code whose lots have these reduced bases, shorter lots first, or None."""
    least = ranks_of_sound_code(book, size)
    weak = [lot for lot in lots_by_length(book) if len(bases[lot]) < least[lot]]
    return weak[0] if weak else None


def check_bases(book, size, bases):
    """Raises an error for the first weak lot of a code whose lots have these reduced bases."""
    lot = first_weak(book, size, bases)
    if lot is not None:
        raise Weak(lot)


def check_sound(code):
    """Raises an error for the first weak lot of a code."""
    check_bases(code.book, code.size, bases_of_lots(code))


class Code:
    """For each keeper of a book as many vectors as it keeps; their products with a file are what it keeps of it."""

    def __init__(self, book, modulus, size, rows):
        check_modulus(modulus)
        check_length(book, size)
        check_rows(book, modulus, size, rows)
        self._book = book
        self._modulus = modulus
        self._size = size
        self._vectors = {name: [tuple(vector) for vector in rows[name]] for name in book}

    @property
    def book(self):
        """The book of the keepers."""
        return self._book

    @property
    def modulus(self):
        """The modulus of the letters."""
        return self._modulus

    @property
    def size(self):
        """The length of the file."""
        return self._size

    def vectors(self, name):
        """The list of the vectors of a keeper, tuples."""
        check_known(self._book, name)
        return list(self._vectors[name])

    def table(self):
        """A table from the names to the lists of their vectors."""
        return {name: self.vectors(name) for name in self._book}

    def space(self, *lot):
        """The space of the vectors of a lot."""
        check_lot(self._book, lot)
        vectors = [vector for name in lot for vector in self._vectors[name]]
        return Space(self._modulus, self._size, vectors)

    def rank(self, *lot):
        """The rank of the vectors of a lot."""
        return len(self.space(*lot))

    def weak_lot(self):
        """The first lot with a lesser rank than in a sound code, shorter lots first, or None."""
        return first_weak(self._book, self._size, bases_of_lots(self))

    def is_sound(self):
        """Whether no lot is weak."""
        return self.weak_lot() is None

    def with_book(self, book):
        """The code with the same vectors under a book with the same names in the same order."""
        if book.names() != self._book.names():
            raise Differ()
        return Code(book, self._modulus, self._size, self._vectors)

    def without(self, name):
        """The code without a keeper, which must be sound for the book without it."""
        book = self._book.without_keeper(name)
        rest = Code(book, self._modulus, self._size, {other: self._vectors[other] for other in book})
        check_sound(rest)
        return rest

    def __eq__(self, other):
        return (isinstance(other, Code) and self._book == other._book
                and self._modulus == other._modulus and self._vectors == other._vectors)

    def __repr__(self):
        return f"Code({self._size} on {len(self._book)})"


def fresh(book, modulus, size):
    """A code in which each lot has the rank of what it keeps, or of the size if that is less."""
    check_modulus(modulus)
    check_length(book, size)
    rows = {}
    many = 0
    for name in book:
        # As many of these vectors as they are long are independent, since each one has powers of another letter.
        rows[name] = [powers(many + at + 1, size, modulus) for at in range(book.keep(name))]
        many = many + book.keep(name)
    return Code(book, modulus, size, rows)
