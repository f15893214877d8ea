"""What each deed does with what a vault holds: the triple of its book, its code and the letters of its keepers.

Without a file both the code and the letters are None. What a vault holds is never changed, only replaced.
"""

from mendworth.books import check_known, is_index
from mendworth.codes import check_sound, fresh
from mendworth.errors import InvalidDeed, InvalidFile, InvalidValues, NoFile
from mendworth.files import added, check_letters, mended, stored
from mendworth.letters import is_letter
from mendworth.mends import admission, mend


def check_present(code):
    """Raises an error unless there is a file and so a code."""
    if code is None:
        raise NoFile()


def put_file(modulus, held, deed):
    """Behind a file that is stored."""
    book, _, _ = held
    _, file = deed
    check_letters(modulus, file)
    if not 1 <= len(file) <= book.kept_by_all():
        raise InvalidFile(-1)
    code = fresh(book, modulus, len(file))
    return book, code, stored(code, file)


def add_letter(modulus, held, deed):
    """Behind a letter that is added to one of the file."""
    book, code, values = held
    _, at, number = deed
    check_present(code)
    if not is_letter(number, modulus):
        raise InvalidFile(at)
    return book, code, added(code, values, at, number)


def mend_fall(modulus, held, deed):
    """Behind a fall and its mend."""
    book, code, values = held
    _, name, at = deed
    check_known(book, name)
    check_present(code)
    paper = mend(code, name, at)
    return book, paper.after(), mended(paper, values)


def spoil_letter(modulus, held, deed):
    """Behind the loss of a letter of a keeper to another one."""
    book, code, values = held
    _, name, at, letter = deed
    check_known(book, name)
    check_present(code)
    if not is_index(at, book.keep(name)) or not is_letter(letter, modulus):
        raise InvalidValues(name)
    letters = list(values[name])
    letters[at] = letter
    return book, code, {**values, name: letters}


def admit_keeper(modulus, held, deed):
    """Behind the admission of a keeper."""
    book, code, values = held
    _, name, keep, call = deed
    if code is None:
        return book.with_keeper(name, keep, call), None, None
    paper = admission(code, name, keep, call)
    return paper.book, paper.after(), mended(paper, values)


def dismiss_keeper(modulus, held, deed):
    """Behind the removal of a keeper."""
    book, code, values = held
    _, name = deed
    if code is None:
        return book.without_keeper(name), None, None
    rest = code.without(name)
    return rest.book, rest, {other: values[other] for other in rest.book}


def with_other_calls(held, book):
    """Behind the change to a book that differs in calls only."""
    _, code, values = held
    if code is None:
        return book, None, None
    code = code.with_book(book)
    check_sound(code)
    return book, code, values


def allow_call(modulus, held, deed):
    """Behind one more call of a keeper."""
    book, _, _ = held
    _, name, call = deed
    return with_other_calls(held, book.with_call(name, call))


def forbid_call(modulus, held, deed):
    """Behind the removal of a call of a keeper."""
    book, _, _ = held
    _, name, at = deed
    return with_other_calls(held, book.without_call(name, at))


ACTIONS = {"put": put_file, "add": add_letter, "mend": mend_fall, "spoil": spoil_letter, "admit": admit_keeper,
           "dismiss": dismiss_keeper, "allow": allow_call, "forbid": forbid_call}
LENGTHS = {"put": 2, "add": 3, "mend": 3, "spoil": 4, "admit": 4, "dismiss": 2, "allow": 3, "forbid": 3}


def has_form_of_deed(value):
    """Whether any value is a tuple of the word of a deed and as many other items as this one has."""
    return (isinstance(value, tuple) and len(value) > 0 and isinstance(value[0], str) and value[0] in LENGTHS
            and len(value) == LENGTHS[value[0]])


def check_deeds(deeds):
    """Raises an error for the first value that has not the form of a deed."""
    for at, deed in enumerate(deeds):
        if not has_form_of_deed(deed):
            raise InvalidDeed(at)


def behind(modulus, held, deeds):
    """What a vault holds behind deeds, which are done one after another."""
    for deed in deeds:
        action = ACTIONS[deed[0]]
        held = action(modulus, held, deed)
    return held
