"""Files and the letters that keepers keep of them."""

from mendworth.books import is_index
from mendworth.errors import InvalidFile, InvalidValues, Torn, Unreadable
from mendworth.letters import is_letter
from mendworth.spaces import Space, combination, is_vector_of, orthogonal_rows, product_of
from mendworth.worths import check_lot


def check_letters(modulus, value):
    """Raises an error unless any value is a list of letters."""
    if not isinstance(value, (list, tuple)):
        raise InvalidFile(-1)
    for at, item in enumerate(value):
        if not is_letter(item, modulus):
            raise InvalidFile(at)


def check_file(code, value):
    """Raises an error unless any value is a file of a code."""
    check_letters(code.modulus, value)
    if len(value) != code.size:
        raise InvalidFile(-1)


def check_values(code, values, names):
    """Raises an error for the first of some names for which values have not the letters that the keeper keeps."""
    told = values if isinstance(values, dict) else {}
    for name in names:
        if not is_vector_of(told.get(name), code.modulus, code.book.keep(name)):
            raise InvalidValues(name)


def products(rows, letters, modulus):
    """What each of some vectors makes of letters."""
    return [product_of(row, letters, modulus) for row in rows]


def file_of(code, values, lot):
    """One file to which the letters of a lot belong, a list, or None."""
    rows = [vector for name in lot for vector in code.vectors(name)]
    columns = [[row[at] for row in rows] for at in range(code.size)]
    return combination(code.modulus, columns, [letter for name in lot for letter in values[name]])


def stored(code, file):
    """What each keeper keeps of a file: a table from the names to the lists of letters."""
    check_file(code, file)
    return {name: products(code.vectors(name), file, code.modulus) for name in code.book}


def agree(code, values, *lot):
    """Whether the letters of a lot belong to some file."""
    check_lot(code.book, lot)
    check_values(code, values, lot)
    return file_of(code, values, lot) is not None


def candidates(code, values, *lot):
    """A file to which the letters of a lot belong, and the space of all that may be added to it."""
    check_lot(code.book, lot)
    check_values(code, values, lot)
    file = file_of(code, values, lot)
    if file is None:
        raise Torn(lot)
    # What has the product 0 with each vector of the lot changes none of its letters.
    unseen = orthogonal_rows(code.space(*lot).basis(), code.modulus, code.size)
    return file, Space(code.modulus, code.size, unseen)


def recovered(code, values, *lot):
    """The only file to which the letters of a lot belong."""
    file, unseen = candidates(code, values, *lot)
    if unseen:
        raise Unreadable(lot)
    return file


def suspects(code, values):
    """The keepers without each of which the letters of all others agree; none if all letters agree."""
    names = code.book.names()
    check_values(code, values, names)
    if file_of(code, values, names) is not None:
        return []
    return [name for name in names
            if file_of(code, values, [other for other in names if other != name]) is not None]


def added(code, values, at, number):
    """The letters of all keepers behind a number that is added to the letter of the file with an index."""
    if not is_index(at, code.size):
        raise InvalidFile(at)
    check_values(code, values, code.book)
    return {name: [(letter + number * row[at]) % code.modulus
                   for letter, row in zip(values[name], code.vectors(name))] for name in code.book}


def mended(mend, values):
    """The letters of all keepers behind a mend, those of the newcomer made of what the helpers send."""
    code = mend.before
    standing = [name for name in code.book if name != mend.keeper]
    check_values(code, values, standing)
    sent = mend.sent()
    letters = [letter for helper in standing if helper in sent
               for letter in products(sent[helper], values[helper], code.modulus)]
    kept = products(mend.kept(), letters, code.modulus)
    return {name: list(values[name]) if name in standing else kept for name in code.book}
