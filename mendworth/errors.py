"""The errors of the whole package.

They keep copies, so that an error still tells what was wrong when its caller has changed it.
"""


def copied(value):
    """The value itself, but with new lists and dicts, at any depth."""
    if isinstance(value, list):
        return [copied(item) for item in value]
    if isinstance(value, tuple):
        return tuple([copied(item) for item in value])
    if isinstance(value, dict):
        return {key: copied(value[key]) for key in value}
    return value


class MendError(ValueError):
    """A value is not what was asked for."""


class InvalidModulus(MendError):
    """A value is no modulus."""

    def __init__(self, given):
        self.given = copied(given)
        self.code = "InvalidModulus"


class InvalidSize(MendError):
    """A value is no size that is allowed here."""

    def __init__(self, given):
        self.given = copied(given)
        self.code = "InvalidSize"


class InvalidVector(MendError):
    """The item at this index is no vector of the right length; -1 means the target."""

    def __init__(self, at):
        self.at = copied(at)
        self.code = "InvalidVector"


class Mismatch(MendError):
    """Two spaces differ in modulus or size."""

    def __init__(self):
        self.code = "Mismatch"


class ZeroLetter(MendError):
    """The modulus divides a number that was to be inverted."""

    def __init__(self):
        self.code = "ZeroLetter"


class InvalidCount(MendError):
    """There are too few or too many of something."""

    def __init__(self, given):
        self.given = copied(given)
        self.code = "InvalidCount"


class InvalidName(MendError):
    """A value is no name."""

    def __init__(self, name):
        self.name = copied(name)
        self.code = "InvalidName"


class InvalidKeep(MendError):
    """A value is no number of letters that a keeper may keep."""

    def __init__(self, given):
        self.given = copied(given)
        self.code = "InvalidKeep"


class InvalidKeeper(MendError):
    """The value at this index has not the form of a keeper."""

    def __init__(self, at):
        self.at = copied(at)
        self.code = "InvalidKeeper"


class InvalidCall(MendError):
    """The value at this index is no call of the keeper, or one too many."""

    def __init__(self, name, at):
        self.name = copied(name)
        self.at = copied(at)
        self.code = "InvalidCall"


class InvalidText(MendError):
    """The text of a book is wrong at the line with this index."""

    def __init__(self, line):
        self.line = copied(line)
        self.code = "InvalidText"


class InvalidFalls(MendError):
    """A value is neither None nor a number of falls."""

    def __init__(self, given):
        self.given = copied(given)
        self.code = "InvalidFalls"


class InvalidFall(MendError):
    """The value at this index is no fall of the book."""

    def __init__(self, at):
        self.at = copied(at)
        self.code = "InvalidFall"


class InvalidRows(MendError):
    """The rows of this keeper are missing or are not what it keeps."""

    def __init__(self, name):
        self.name = copied(name)
        self.code = "InvalidRows"


class InvalidFile(MendError):
    """The item at this index is no letter of the file; -1 means the whole file."""

    def __init__(self, at):
        self.at = copied(at)
        self.code = "InvalidFile"


class InvalidValues(MendError):
    """The letters of this keeper are missing or are not what it keeps."""

    def __init__(self, name):
        self.name = copied(name)
        self.code = "InvalidValues"


class Weak(MendError):
    """A lot has a lesser rank than a sound code gives it."""

    def __init__(self, lot):
        self.lot = copied(lot)
        self.code = "Weak"


class Torn(MendError):
    """The letters of a lot belong to no file."""

    def __init__(self, lot):
        self.lot = copied(lot)
        self.code = "Torn"


class Unreadable(MendError):
    """The letters of a lot belong to several files."""

    def __init__(self, lot):
        self.lot = copied(lot)
        self.code = "Unreadable"


class Steady(MendError):
    """This keeper has no calls and never falls."""

    def __init__(self, name):
        self.name = copied(name)
        self.code = "Steady"


class InUse(MendError):
    """A call asks this keeper."""

    def __init__(self, name):
        self.name = copied(name)
        self.code = "InUse"


class Differ(MendError):
    """Two books have not the same names in the same order."""

    def __init__(self):
        self.code = "Differ"


class NoFile(MendError):
    """A vault has no file."""

    def __init__(self):
        self.code = "NoFile"


class InvalidDeed(MendError):
    """The value at this index has not the form of a deed."""

    def __init__(self, at):
        self.at = copied(at)
        self.code = "InvalidDeed"


class Full(MendError):
    """A book has as many keepers as are allowed."""

    def __init__(self, allowed):
        self.allowed = copied(allowed)
        self.code = "Full"


class InvalidLimit(MendError):
    """A value is no limit of steps."""

    def __init__(self, given):
        self.given = copied(given)
        self.code = "InvalidLimit"


class InvalidPage(MendError):
    """The page of a vault is wrong at the line with this index."""

    def __init__(self, line):
        self.line = copied(line)
        self.code = "InvalidPage"


class DuplicateName(MendError):
    """A name occurs twice, or another keeper has it."""

    def __init__(self, name):
        self.name = copied(name)
        self.code = "DuplicateName"


class Missing(LookupError):
    """Something that was asked for is not there."""


class UnknownName(Missing):
    """A value is no name of the book."""

    def __init__(self, name):
        self.name = copied(name)
        self.code = "UnknownName"


class UnknownCall(Missing):
    """A value is no index of a call."""

    def __init__(self, at):
        self.at = copied(at)
        self.code = "UnknownCall"


class NothingLeft(IndexError):
    """No step is left that can be undone or redone."""

    def __init__(self):
        self.code = "NothingLeft"
