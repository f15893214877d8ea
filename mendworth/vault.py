"""Vaults: a book with or without a file, changed by deeds, in steps that can be undone."""

from mendworth.books import check_known
from mendworth.deeds import behind, check_deeds, check_present
from mendworth.errors import InvalidLimit, NothingLeft
from mendworth.files import agree, recovered, suspects
from mendworth.letters import check_modulus, is_number
from mendworth.worths import as_told, check_lot, worth


def check_limit(value):
    """Raises an error unless a value is a limit of steps."""
    if not is_number(value) or not 1 <= value <= Vault.MOST:
        raise InvalidLimit(value)


def length_of(code):
    """The length of the file of a code, or 0 if there is none."""
    return 0 if code is None else code.size


def newest(steps, limit):
    """As many of the newest steps as a limit says; the newest one stands last."""
    return steps[-limit:]


def vault_with(book, modulus, code, values):
    """A vault without steps that holds a code and letters, or a book alone if both are None."""
    vault = Vault(book, modulus)
    vault._held = (book, code, values)
    return vault


class Vault:
    """A book and a modulus, and a file or none that its keepers keep."""

    MOST = 99

    def __init__(self, book, modulus, *, limit=40):
        check_modulus(modulus)
        check_limit(limit)
        self._modulus = modulus
        self._limit = limit
        self._held = (book, None, None)
        self._past = []
        self._future = []
        self._worths = {}
        self._computed = 0
        self._busy = False

    @property
    def limit(self):
        """How many steps can be undone at most."""
        return self._limit

    @limit.setter
    def limit(self, value):
        """Sets the limit; steps beyond it are forgotten, the oldest ones first."""
        check_limit(value)
        self._limit = value
        self._past = newest(self._past, value)

    def set_limit(self, value):
        """Sets the limit; steps beyond it are forgotten, the oldest ones first."""
        self.limit = value

    def apply(self, *deeds):
        """Does deeds as one step, all or none of them."""
        check_deeds(deeds)
        self._busy = True
        try:
            held = behind(self._modulus, self._held, deeds)
        finally:
            self._busy = False
        self._future = []
        self._remember()
        self._hold(held)

    def undo(self):
        """Undoes the newest step."""
        if not self._past:
            raise NothingLeft()
        self._future.append(self._held)
        self._hold(self._past.pop())

    def redo(self):
        """Redoes the step that was undone last."""
        if not self._future:
            raise NothingLeft()
        self._remember()
        self._hold(self._future.pop())

    def _remember(self):
        """Makes what the vault holds the state that the next undo leads to."""
        self._past = newest([*self._past, self._held], self._limit)

    def _hold(self, held):
        """Replaces what the vault holds."""
        if held[0] != self.book:
            self._worths = {}
        self._held = held

    def history(self):
        """The numbers of the steps that can be undone and redone."""
        return len(self._past), len(self._future)

    @property
    def busy(self):
        """Whether deeds are being done."""
        return self._busy

    @property
    def book(self):
        """The book."""
        return self._held[0]

    @property
    def modulus(self):
        """The modulus."""
        return self._modulus

    @property
    def present(self):
        """The code, or None without a file."""
        return self._held[1]

    def letters(self, name):
        """The list of the letters that a keeper keeps."""
        book, code, values = self._held
        check_known(book, name)
        check_present(code)
        return list(values[name])

    def fetch(self, *lot):
        """The file to which the letters of a lot belong."""
        book, code, values = self._held
        check_lot(book, lot)
        check_present(code)
        return recovered(code, values, *lot)

    def agree(self, *lot):
        """Whether the letters of a lot belong to some file."""
        book, code, values = self._held
        check_lot(book, lot)
        check_present(code)
        return agree(code, values, *lot)

    def suspects(self):
        """The keepers without each of which the letters of all others agree; none if all letters agree."""
        _, code, values = self._held
        check_present(code)
        return suspects(code, values)

    def worth(self, *lot):
        """The worth of a lot, which is kept until the book becomes a different one."""
        book = self.book
        check_lot(book, lot)
        told = as_told(book, lot)
        if told not in self._worths:
            self._worths[told] = worth(book, *told)
            self._computed = self._computed + 1
        return self._worths[told]

    def kept(self):
        """The list of the lots whose worths are kept, the one that was asked for first ahead."""
        return list(self._worths)

    @property
    def computed(self):
        """How many worths were computed and not taken from the kept ones."""
        return self._computed

    def twin(self):
        """An independent vault with all that this one has."""
        other = Vault(self.book, self._modulus, limit=self._limit)
        other._held = self._held
        other._past = list(self._past)
        other._future = list(self._future)
        other._worths = {lot: self._worths[lot] for lot in self._worths}
        other._computed = self._computed
        return other

    def __contains__(self, x):
        return x in self.book

    def __len__(self):
        return len(self.book)

    def __bool__(self):
        return True

    def __eq__(self, other):
        return isinstance(other, Vault) and self._modulus == other._modulus and self._held == other._held

    def __repr__(self):
        return f"Vault({len(self.book)} keepers, {length_of(self.present)} letters)"
