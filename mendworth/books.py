"""Books: which keepers there are, what each one keeps, and who may be asked when it falls."""

from mendworth.errors import (DuplicateName, Full, InUse, InvalidCall, InvalidCount, InvalidKeep, InvalidKeeper,
                              InvalidName, InvalidText, UnknownCall, UnknownName, copied)
from mendworth.letters import is_number

LONGEST_NAME = 8
MOST_LETTERS = 6
NUMERALS = ("1", "2", "3", "4", "5", "6")


def is_name(value):
    """Whether any value is a name."""
    if not isinstance(value, str) or not 1 <= len(value) <= LONGEST_NAME:
        return False
    # Python's own words for lowercase letters take letters of other alphabets, too.
    return all(["a" <= letter <= "z" for letter in value])


def is_amount(value):
    """Whether any value is a number of letters that a keeper may keep or send."""
    return is_number(value) and 1 <= value <= MOST_LETTERS


def is_index(value, many):
    """Whether any value is an index of a list of so many items."""
    return is_number(value) and 0 <= value < many


def is_call(value, others):
    """Whether any value is a call of a keeper beside which there are these others."""
    return (isinstance(value, dict) and len(value) > 0
            and all([helper in others and is_amount(value[helper]) for helper in value]))


def has_form_of_keeper(value):
    """Whether any value is a tuple of three items, the last one a list."""
    return isinstance(value, tuple) and len(value) == 3 and isinstance(value[2], (list, tuple))


def check_known(book, name):
    """Raises an error unless a value is a name of the book."""
    if name not in book:
        raise UnknownName(name)


def check_keeper(keepers, at):
    """Raises an error if a keeper is wrong apart from its calls; the keepers ahead of it are right."""
    if not has_form_of_keeper(keepers[at]):
        raise InvalidKeeper(at)
    name, keep, _ = keepers[at]
    if not is_name(name):
        raise InvalidName(name)
    if name in names_in(keepers[:at]):
        raise DuplicateName(name)
    if not is_amount(keep):
        raise InvalidKeep(keep)


def check_keepers(keepers):
    """Raises an error unless all values are keepers of one book, apart from their calls."""
    if not 1 <= len(keepers) <= Book.MOST:
        raise InvalidCount(len(keepers))
    for at in range(len(keepers)):
        check_keeper(keepers, at)


def check_calls(keepers):
    """Raises an error unless all calls of keepers, which are right apart from these, are calls of their book."""
    for name, _, calls in keepers:
        others = names_beside(keepers, name)
        for at, call in enumerate(calls):
            if at == Book.MOST_CALLS or not is_call(call, others):
                raise InvalidCall(name, at)


def names_in(keepers):
    """The names of keepers, in their order."""
    return [keeper[0] for keeper in keepers]


def names_beside(keepers, name):
    """The names of all keepers but one, in their order."""
    return [other for other in names_in(keepers) if other != name]


def choices(items, many):
    """All lists of so many of the items, by the positions of these."""
    if many == 0:
        return [[]]
    return [[item, *rest] for at, item in enumerate(items) for rest in choices(items[at + 1:], many - 1)]


def calls_alike(others, helpers, letters):
    """A call for each choice of so many of the others, in which each one sends the same."""
    return [{helper: letters for helper in lot} for lot in choices(others, helpers)]


def times_letters(call, times):
    """A call with all its letters times a number."""
    return {helper: call[helper] * times for helper in call}


def other_name(name, old, new):
    """A name, or the new one if it is the old one."""
    return new if name == old else name


def with_other_name(call, old, new):
    """A call that asks its helper by a new name."""
    return {other_name(helper, old, new): call[helper] for helper in call}


def line_of_call(call):
    """The line of a text for a call, without its line feed."""
    return " ".join(["call"] + [f"{helper}={call[helper]}" for helper in sorted(call)])


def lines_of_keeper(keeper):
    """The lines of a text for a keeper and its calls, without their line feeds."""
    name, keep, calls = keeper
    return [f"keeper {name} {keep}"] + [line_of_call(call) for call in calls]


def call_told(words):
    """The call that the words behind `call` tell, whoever its helpers are, or None if they tell none."""
    call = {}
    before = ""
    for word in words:
        helper, _, number = word.partition("=")
        if not is_name(helper) or helper <= before or number not in NUMERALS:
            return None
        call[helper] = int(number)
        before = helper
    return call if call else None


def with_line_of_keeper(keepers, words):
    """The keepers behind a line of words that begins with `keeper`, or None if it is wrong."""
    if len(words) != 3 or not is_name(words[1]) or words[2] not in NUMERALS:
        return None
    if len(keepers) == Book.MOST or words[1] in names_in(keepers):
        return None
    return keepers + [(words[1], int(words[2]), [])]


def with_line_of_call(keepers, words):
    """The keepers behind a line of words that begins with `call`, or None if it is wrong."""
    call = call_told(words[1:])
    if call is None or not keepers:
        return None
    name, keep, calls = keepers[-1]
    if len(calls) == Book.MOST_CALLS:
        return None
    return keepers[:-1] + [(name, keep, calls + [call])]


def with_line(keepers, line):
    """The keepers behind one more line of their text, or None if the line is wrong."""
    words = line.split(" ")
    if words[0] == "keeper":
        return with_line_of_keeper(keepers, words)
    if words[0] == "call":
        return with_line_of_call(keepers, words)
    return None


def check_helpers(keepers):
    """Raises an error for the line of the first call with a helper that is its own keeper or none of the text."""
    line = 0
    for name, _, calls in keepers:
        others = names_beside(keepers, name)
        for at, call in enumerate(calls):
            if not is_call(call, others):
                raise InvalidText(line + 1 + at)
        line = line + 1 + len(calls)


def keepers_told(text):
    """The keepers that a text tells; raises an error for any value that is no text of a book."""
    if not isinstance(text, str) or text == "":
        raise InvalidText(0)
    lines = text.split("\n")
    keepers = []
    for at, line in enumerate(lines[:-1]):
        keepers = with_line(keepers, line)
        if keepers is None:
            raise InvalidText(at)
    # Behind the last line feed there is nothing, unless the last line lacks its own.
    if lines[-1] != "":
        raise InvalidText(len(lines) - 1)
    check_helpers(keepers)
    return keepers


class Book:
    """Keepers in an order: what each one keeps, and the calls by which it is replaced when it falls."""

    MOST = 7
    MOST_CALLS = 20

    def __init__(self, *keepers):
        check_keepers(keepers)
        check_calls(keepers)
        self._names = tuple(names_in(keepers))
        self._keeps = {name: keep for name, keep, calls in keepers}
        self._calls = {name: copied(list(calls)) for name, keep, calls in keepers}

    @staticmethod
    def alike(*names, keep, helpers, letters=1):
        """A book in which each keeper keeps the same and may ask each lot of so many others for the same."""
        steady = [(name, keep, []) for name in names]
        check_keepers(steady)
        if not is_number(helpers) or not 1 <= helpers < len(names):
            raise InvalidCount(helpers)
        keepers = [(name, keep, calls_alike(names_beside(steady, name), helpers, letters)) for name in names]
        return Book(*keepers)

    @classmethod
    def read(cls, text):
        """The book with a text."""
        keepers = keepers_told(text)
        return cls(*keepers)

    def text(self):
        """The text of the book."""
        lines = [line for keeper in self.keepers() for line in lines_of_keeper(keeper)]
        return "".join([line + "\n" for line in lines])

    def names(self):
        """The list of the names, in order."""
        return list(self._names)

    def keep(self, name):
        """How many letters a keeper keeps."""
        check_known(self, name)
        return self._keeps[name]

    def calls(self, name):
        """The list of the calls of a keeper."""
        check_known(self, name)
        return copied(self._calls[name])

    def call(self, name, at=0):
        """The call of a keeper with this index."""
        calls = self.calls(name)
        if not is_index(at, len(calls)):
            raise UnknownCall(at)
        return calls[at]

    def keepers(self):
        """The list of the keepers, in order."""
        return [(name, self._keeps[name], self.calls(name)) for name in self._names]

    def kept_by_all(self):
        """How many letters all keepers keep together."""
        return sum([self._keeps[name] for name in self._names])

    def with_keeper(self, name, keep, *calls):
        """The book with one more keeper, the last one."""
        if len(self._names) == Book.MOST:
            raise Full(Book.MOST)
        keepers = self.keepers() + [(name, keep, calls)]
        return Book(*keepers)

    def without_keeper(self, name):
        """The book without a keeper, which no call may ask."""
        check_known(self, name)
        if any([name in call for calls in self._calls.values() for call in calls]):
            raise InUse(name)
        # A book of no keepers is refused with the very error that the only keeper asks for.
        keepers = [keeper for keeper in self.keepers() if keeper[0] != name]
        return Book(*keepers)

    def with_keep(self, name, keep):
        """The book in which a keeper keeps another number of letters."""
        return self._with(name, keep, self.calls(name))

    def with_call(self, name, call):
        """The book in which a keeper has one more call, its last one."""
        return self._with(name, self.keep(name), self.calls(name) + [call])

    def without_call(self, name, at=0):
        """The book in which a keeper has not the call with this index."""
        self.call(name, at)
        calls = self.calls(name)
        return self._with(name, self.keep(name), calls[:at] + calls[at + 1:])

    def _with(self, name, keep, calls):
        """The book in which a keeper keeps so many letters and has these calls."""
        keepers = [(name, keep, calls) if keeper[0] == name else keeper for keeper in self.keepers()]
        return Book(*keepers)

    def renamed(self, old, new):
        """The book in which a keeper has another name, also in calls."""
        check_known(self, old)
        if not is_name(new):
            raise InvalidName(new)
        if new in self:
            raise DuplicateName(new)
        keepers = [(other_name(name, old, new), keep, [with_other_name(call, old, new) for call in calls])
                   for name, keep, calls in self.keepers()]
        return Book(*keepers)

    def __or__(self, other):
        keepers = self.keepers() + other.keepers()
        return Book(*keepers)

    def __mul__(self, other):
        keepers = [(name, keep * other, [times_letters(call, other) for call in calls])
                   for name, keep, calls in self.keepers()]
        return Book(*keepers)

    def __iter__(self):
        return iter(self._names)

    def __contains__(self, x):
        return isinstance(x, str) and x in self._keeps

    def __len__(self):
        return len(self._names)

    def __bool__(self):
        return True

    def __eq__(self, other):
        return (isinstance(other, Book) and self._names == other._names
                and self._keeps == other._keeps and self._calls == other._calls)

    def __repr__(self):
        return f"Book({len(self._names)} keepers)"
