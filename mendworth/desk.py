"""Desks: lines of words that ask and change a vault, and the answers."""

from mendworth.errors import MendError, Missing, NothingLeft
from mendworth.letters import is_numeral

# What stands behind the word of a deed; `put` has any number of numbers.
FORMS = {"add": ("number", "number"), "mend": ("name", "number"), "spoil": ("name", "number", "number"),
         "dismiss": ("name",)}


def form_of(words):
    """What must stand behind the word of a deed, or None if there is no such deed."""
    if words[0] == "put":
        return ["number"] * max(1, len(words) - 1)
    return list(FORMS[words[0]]) if words[0] in FORMS else None


def deed_told(words):
    """The deed that words tell, or None."""
    form = form_of(words)
    rest = words[1:]
    if form is None or len(form) != len(rest):
        return None
    if not all([kind == "name" or is_numeral(word) for kind, word in zip(form, rest)]):
        return None
    items = [word if kind == "name" else int(word) for kind, word in zip(form, rest)]
    return ("put", items) if words[0] == "put" else (words[0], *items)


def joined(items):
    """Names or letters with spaces between."""
    return " ".join([str(item) for item in items])


def told_of_suspects(vault):
    """The suspects of a vault, or the word for none."""
    return joined(vault.suspects()) or "none"


def done_alone(vault, word):
    """The answer to a line of one word that needs no other one, or the one to unknown lines."""
    if word == "undo":
        vault.undo()
        return "done"
    if word == "redo":
        vault.redo()
        return "done"
    if word == "keepers":
        return joined(vault.book)
    if word == "suspects":
        return told_of_suspects(vault)
    return "unknown"


def told_of_names(vault, word, names):
    """The answer to a line of a word and names, or the one to unknown lines."""
    if word == "worth":
        return str(vault.worth(*names))
    if word == "read" and names:
        return joined(vault.fetch(*names))
    if word == "letters" and len(names) == 1:
        return joined(vault.letters(names[0]))
    return "unknown"


def answered(vault, words):
    """The answer to words none of which is empty; raises what the vault raises."""
    deed = deed_told(words)
    if deed is not None:
        vault.apply(deed)
        return "done"
    if words[0] in ("worth", "read", "letters"):
        return told_of_names(vault, words[0], words[1:])
    return done_alone(vault, words[0]) if len(words) == 1 else "unknown"


def answer_to(vault, line):
    """The answer to any line."""
    words = line.split(" ")
    if "\n" in line or "" in words:
        return "unknown"
    try:
        return answered(vault, words)
    except (MendError, Missing, NothingLeft) as error:
        return f"error {error.code}"


class Desk:
    """Answers lines about a vault, which it leads."""

    def __init__(self, vault):
        self._vault = vault
        self._log = []

    @property
    def vault(self):
        """The vault."""
        return self._vault

    def say(self, line):
        """The answer to a line."""
        answer = answer_to(self._vault, line)
        self._log.append((line, answer))
        return answer

    def __call__(self, line):
        return self.say(line)

    def log(self):
        """The list of the lines with their answers, as pairs."""
        return list(self._log)

    def __len__(self):
        return len(self._log)

    def __bool__(self):
        return True

    def __repr__(self):
        return f"Desk({len(self._log)} lines)"
