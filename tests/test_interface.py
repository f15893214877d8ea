import importlib
import inspect
import unittest

INTERFACE = {
    "errors": {
        "MendError": None, "InvalidModulus": "(given)", "InvalidSize": "(given)", "InvalidVector": "(at)",
        "Mismatch": "()", "ZeroLetter": "()", "InvalidCount": "(given)", "InvalidName": "(name)",
        "InvalidKeep": "(given)", "InvalidKeeper": "(at)", "InvalidCall": "(name, at)", "InvalidText": "(line)",
        "InvalidFalls": "(given)", "InvalidFall": "(at)", "InvalidRows": "(name)", "InvalidFile": "(at)",
        "InvalidValues": "(name)", "Weak": "(lot)", "Torn": "(lot)", "Unreadable": "(lot)", "Steady": "(name)",
        "InUse": "(name)", "Differ": "()", "NoFile": "()", "InvalidDeed": "(at)", "Full": "(allowed)",
        "InvalidLimit": "(given)", "InvalidPage": "(line)", "DuplicateName": "(name)", "Missing": None,
        "UnknownName": "(name)", "UnknownCall": "(at)", "NothingLeft": "()"},
    "letters": {"is_modulus": "(value)", "is_letter": "(value, modulus)", "inverse": "(number, modulus)"},
    "spaces": {
        "Space": "(modulus, size, vectors=())", "Space.whole": "(modulus, size)", "Space.basis": "()",
        "Space.reduced": "(vector)", "combination": "(modulus, vectors, target)"},
    "books": {
        "is_name": "(value)", "Book": "(*keepers)", "Book.alike": "(*names, keep, helpers, letters=1)",
        "Book.read": "(text)", "Book.text": "()", "Book.names": "()", "Book.keep": "(name)", "Book.calls": "(name)",
        "Book.call": "(name, at=0)", "Book.keepers": "()", "Book.kept_by_all": "()",
        "Book.with_keeper": "(name, keep, *calls)", "Book.without_keeper": "(name)", "Book.with_keep": "(name, keep)",
        "Book.with_call": "(name, call)", "Book.without_call": "(name, at=0)", "Book.renamed": "(old, new)"},
    "worths": {
        "brought": "(book, name, *lot)", "along": "(book, *order)", "worth": "(book, *lot, falls=None)",
        "worths": "(book, *, falls=None)", "readers": "(book, size, *, falls=None)",
        "longest_file": "(book, *lots, falls=None)"},
    "papers": {
        "Paper": "(book)", "Paper.holds": "()", "Paper.told": "()", "Bound": "(book, lot, group, falls)",
        "Bound.falls": "()", "Bound.holds": "()", "Bound.letters": "()", "Bound.told": "()", "Floor": "(book, table)",
        "Floor.table": "()", "Floor.holds": "()", "StepFloor": "(book, tables)", "StepFloor.table": "()",
        "StepFloor.holds": "()", "StepFloor.told": "()", "bound": "(book, *lot, falls=None)",
        "floor": "(book, *, falls=None)"},
    "codes": {
        "Code": "(book, modulus, size, rows)", "Code.vectors": "(name)", "Code.table": "()", "Code.space": "(*lot)",
        "Code.rank": "(*lot)", "Code.weak_lot": "()", "Code.is_sound": "()", "Code.with_book": "(book)",
        "Code.without": "(name)", "fresh": "(book, modulus, size)"},
    "mends": {
        "Mend": "(code, name, at, sent, kept)", "Mend.sent": "()", "Mend.kept": "()", "Mend.messages": "()",
        "Mend.after": "()", "Mend.holds": "()", "Mend.told": "()", "mend": "(code, name, at=0)",
        "codes_behind": "(code, *falls)", "admission": "(code, name, keep, call, *calls)"},
    "files": {
        "stored": "(code, file)", "agree": "(code, values, *lot)", "candidates": "(code, values, *lot)",
        "recovered": "(code, values, *lot)", "suspects": "(code, values)", "added": "(code, values, at, number)",
        "mended": "(mend, values)"},
    "compare": {
        "Comparison": "(one, other)", "Comparison.more": "()", "Comparison.less": "()", "needless_calls": "(book)",
        "trimmed": "(book)", "helpful": "(book, *lot)"},
    "vault": {
        "Vault": "(book, modulus, *, limit=40)", "Vault.set_limit": "(value)", "Vault.apply": "(*deeds)",
        "Vault.undo": "()", "Vault.redo": "()", "Vault.history": "()", "Vault.letters": "(name)",
        "Vault.fetch": "(*lot)", "Vault.agree": "(*lot)", "Vault.suspects": "()", "Vault.worth": "(*lot)",
        "Vault.kept": "()", "Vault.twin": "()"},
    "pages": {"write_page": "(vault)", "read_page": "(text)"},
    "desk": {"Desk": "(vault)", "Desk.say": "(line)", "Desk.__call__": "(line)", "Desk.log": "()"},
}

PROPERTIES = {
    "spaces.Space": "modulus size", "papers.Paper": "book", "papers.Bound": "few group", "papers.StepFloor": "most",
    "codes.Code": "book modulus size", "mends.Mend": "before keeper place", "compare.Comparison": "word",
    "vault.Vault": "limit busy book modulus present computed", "desk.Desk": "vault"}

VALUES = {
    "spaces.Space.MOST": 60, "books.Book.MOST": 7, "books.Book.MOST_CALLS": 20, "papers.Paper.KIND": "open",
    "papers.Bound.KIND": "bound", "papers.Floor.KIND": "floor", "papers.StepFloor.KIND": "step floor",
    "mends.Mend.KIND": "mend", "compare.Comparison.WORDS": ("equal", "more", "less", "crossed"),
    "vault.Vault.MOST": 99}


def found(module, path):
    """What a module has under a path of names."""
    value = importlib.import_module("mendworth." + module)
    for name in path.split("."):
        value = getattr(value, name)
    return value


def signature(value):
    """The parameters by which a function, a method or a class is called."""
    parameters = list(inspect.signature(value).parameters.values())
    if parameters and parameters[0].name == "self":
        parameters = parameters[1:]
    return str(inspect.Signature(parameters))


class Names(unittest.TestCase):
    def test_parameters(self):
        for module, entries in INTERFACE.items():
            for path, expected in entries.items():
                if expected is not None:
                    self.assertEqual(signature(found(module, path)), expected, f"{module}.{path}")

    def test_each_stands_in_its_module(self):
        for module, entries in INTERFACE.items():
            for path in entries:
                self.assertEqual(found(module, path).__module__, "mendworth." + module, path)

    def test_each_method_stands_in_its_class(self):
        for module, entries in INTERFACE.items():
            for path in entries:
                if "." in path:
                    owner, name = path.split(".")
                    self.assertIn(name, vars(found(module, owner)), path)

    def test_properties(self):
        for path, names in PROPERTIES.items():
            module, owner = path.split(".")
            for name in names.split(" "):
                self.assertIsInstance(vars(found(module, owner))[name], property)

    def test_class_values(self):
        for path, expected in VALUES.items():
            module, name = path.split(".", 1)
            self.assertEqual(repr(found(module, name)), repr(expected))

    def test_generators(self):
        for module, entries in INTERFACE.items():
            for path in entries:
                generates = inspect.isgeneratorfunction(found(module, path))
                self.assertEqual(generates, path in ("readers", "codes_behind"), path)

    def test_errors(self):
        for name, parameters in INTERFACE["errors"].items():
            if parameters is not None:
                names = parameters.strip("()").split(", ") if parameters != "()" else []
                error = found("errors", name)(**{word: word for word in names})
                self.assertEqual([error.code, [getattr(error, word) for word in names]], [name, names])


if __name__ == "__main__":
    unittest.main()
