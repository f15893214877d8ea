"""Spaces of vectors, kept by their reduced bases, and sums of given vectors."""

from mendworth.errors import InvalidSize, InvalidVector, Mismatch
from mendworth.letters import check_modulus, inverse, is_letter, is_number


def is_vector(value, modulus):
    """Whether any value is a vector, of any length."""
    return isinstance(value, (list, tuple)) and all([is_letter(item, modulus) for item in value])


def is_vector_of(value, modulus, size):
    """Whether any value is a vector of this length."""
    return is_vector(value, modulus) and len(value) == size


def are_vectors_of(value, many, modulus, size):
    """Whether any value is a list of so many vectors of this length."""
    return (isinstance(value, (list, tuple)) and len(value) == many
            and all([is_vector_of(item, modulus, size) for item in value]))


def check_size(size):
    """Raises an error unless a value is a length that the vectors of a space may have."""
    if not is_number(size) or size < 0 or size > Space.MOST:
        raise InvalidSize(size)


def check_vectors(vectors, modulus, size):
    """Raises an error for the first item that is no vector of this length."""
    for at, vector in enumerate(vectors):
        if not is_vector_of(vector, modulus, size):
            raise InvalidVector(at)


def check_match(one, other):
    """Raises an error unless two spaces have equal modulus and size."""
    if one.modulus != other.modulus or one.size != other.size:
        raise Mismatch()


def product_of(one, other, modulus):
    """The sum of the products of the letters of two vectors of one length."""
    return sum([left * right for left, right in zip(one, other)]) % modulus


def sum_of(factors, vectors, modulus):
    """The sum of one or more vectors of one length times factors, a tuple."""
    return tuple([product_of(factors, column, modulus) for column in zip(*vectors)])


def powers(base, many, modulus):
    """A vector of so many powers of a letter, from 1 on."""
    row = []
    letter = 1
    for _ in range(many):
        row.append(letter)
        letter = letter * base % modulus
    return tuple(row)


def lead(row):
    """The index of the first letter other than 0 in a row of a reduced basis."""
    # This letter is 1, and all letters ahead of it are 0.
    return row.index(1)


def first_other_than_zero(row):
    """The index of the first letter other than 0 in any row that has one."""
    at = 0
    while row[at] == 0:
        at = at + 1
    return at


def cleared_at(row, at, pivot, modulus):
    """The row less as many times the pivot, which has 1 at an index, as leave 0 there."""
    times = row[at]
    if times == 0:
        return row
    return tuple([(letter - times * taken) % modulus for letter, taken in zip(row, pivot)])


def cleared(vector, basis, modulus):
    """What is left of a vector, a tuple, when a reduced basis has made it 0 at each of its leads."""
    if not basis:
        return tuple(vector)
    # At the lead of a row all other rows have 0, so none of them changes how many times the row is to be taken.
    taken = sum_of([vector[lead(row)] for row in basis], basis, modulus)
    return tuple([(letter - less) % modulus for letter, less in zip(vector, taken)])


def basis_with(basis, row, modulus):
    """The reduced basis behind one more row, which a reduced basis has cleared and not made 0."""
    at = first_other_than_zero(row)
    factor = inverse(row[at], modulus)
    pivot = tuple([letter * factor % modulus for letter in row])
    others = [cleared_at(other, at, pivot, modulus) for other in basis]
    # Of two rows of a reduced basis the one with its lead further left is the greater tuple.
    return sorted(others + [pivot], reverse=True)


def widened(basis, rows, modulus):
    """The reduced basis behind some more rows."""
    for row in rows:
        rest = cleared(row, basis, modulus)
        if any(rest):
            basis = basis_with(basis, rest, modulus)
    return basis


def reduced_basis(rows, modulus):
    """The reduced basis of the space that some rows make, a list of tuples."""
    return widened([], rows, modulus)


def orthogonal_row(basis, modulus, size, at):
    """The vector orthogonal to a reduced basis with 1 at this index, no lead, and 0 at all others but the leads."""
    balance = {lead(row): -row[at] % modulus for row in basis}
    return [1 if here == at else balance.get(here, 0) for here in range(size)]


def orthogonal_rows(basis, modulus, size):
    """Vectors that make the space of all those whose products with each row of a reduced basis sum to 0."""
    leads = [lead(row) for row in basis]
    return [orthogonal_row(basis, modulus, size, at) for at in range(size) if at not in leads]


class Space:
    """All sums of multiples of some vectors of one length."""

    MOST = 60

    def __init__(self, modulus, size, vectors=()):
        check_modulus(modulus)
        check_size(size)
        check_vectors(vectors, modulus, size)
        self._modulus = modulus
        self._size = size
        self._rows = tuple(reduced_basis(vectors, modulus))

    @staticmethod
    def whole(modulus, size):
        """The space of all vectors."""
        check_modulus(modulus)
        check_size(size)
        # All vectors are orthogonal to no vector.
        return Space(modulus, size, orthogonal_rows([], modulus, size))

    @property
    def modulus(self):
        """The modulus of the letters."""
        return self._modulus

    @property
    def size(self):
        """The length of the vectors."""
        return self._size

    def basis(self):
        """The list of the reduced basis, of tuples."""
        return list(self._rows)

    def reduced(self, vector):
        """The vector less what makes it 0 wherever a vector of the reduced basis has its lead."""
        if not is_vector_of(vector, self._modulus, self._size):
            raise InvalidVector(0)
        return cleared(vector, self._rows, self._modulus)

    def __iter__(self):
        return iter(self._rows)

    def __len__(self):
        return len(self._rows)

    def __bool__(self):
        return bool(self._rows)

    def __contains__(self, x):
        if not is_vector_of(x, self._modulus, self._size):
            return False
        return not any(cleared(x, self._rows, self._modulus))

    def __add__(self, other):
        check_match(self, other)
        return Space(self._modulus, self._size, self._rows + other._rows)

    def __and__(self, other):
        check_match(self, other)
        beside_self = orthogonal_rows(self._rows, self._modulus, self._size)
        beside_other = orthogonal_rows(other._rows, self._modulus, self._size)
        # A vector is in a space if and only if it is orthogonal to all that is orthogonal to the space.
        beside_both = reduced_basis(beside_self + beside_other, self._modulus)
        return Space(self._modulus, self._size, orthogonal_rows(beside_both, self._modulus, self._size))

    def __eq__(self, other):
        return (isinstance(other, Space) and self._modulus == other._modulus
                and self._size == other._size and self._rows == other._rows)

    def __repr__(self):
        return f"Space({len(self._rows)} of {self._size})"


def combination(modulus, vectors, target):
    """Letters, one for each vector, such that the vectors times these sum to the target, or None."""
    check_modulus(modulus)
    if not is_vector(target, modulus):
        raise InvalidVector(-1)
    check_vectors(vectors, modulus, len(target))
    # One equation for each letter of the target, which stands in the last column.
    equations = list(zip(*vectors, target))
    many = len(vectors)
    found = {lead(row): row[many] for row in reduced_basis(equations, modulus)}
    # A lead in the last column is the equation 0 = 1.
    if many in found:
        return None
    return [found.get(at, 0) for at in range(many)]
