import unittest

from mendworth.books import Book
from mendworth.desk import Desk
from mendworth.vault import Vault
from tests.helper import LEAST, full_keepers, kinds, luck, told_by

BOOK = Book(("c", 2, [{"b": 2, "a": 1}, {"b": 1}]), ("a", 1, [{"b": 1}]), ("b", 3, []))

# None of these is a line that a desk knows, whatever its vault has.
UNKNOWN = ("", " ", "  ", "\n", "put", "put ", " put 1", "put 1 ", "put  1", "put 1  2", "put a", "put 1 a", "put 01",
           "put 1 00", "put -1", "put +1", "put 1000000", "put 1 1234567", "put 1\n", "put 1\n2", "put 1.0", "put 1_0",
           "put 1,2", "put [1]", "Put 1", "PUT 1", "puts 1", "put\t1",
           "add", "add 0", "add 0 1 2", "add a 1", "add 0 a", "add -1 1", "add 0 -1", "add 00 1", "add 0 01",
           "add 1000000 1", "add 0 1000000", "add 0  1", "add 0 1 ",
           "mend", "mend c", "mend c 0 0", "mend c a", "mend c 00", "mend c -1", "mend  c 0", "mend c 0 ", "mend 0 c",
           "mend c 1000000", "spoil", "spoil a", "spoil a 0", "spoil a 0 1 2", "spoil a b 1", "spoil a 0 b",
           "spoil a 00 1", "spoil a 0 01", "spoil a -1 1", "spoil a 0 1000000", "spoil 0 a 1", "spoil a  0 1",
           "dismiss", "dismiss a b", "dismiss  a", "dismiss a ", " dismiss a", "dismiss a\n",
           "undo 1", "undo ", " undo", "undo\n", "Undo", "redo 1", "redo ", "undo redo", "keepers a", "keepers ",
           "suspects a", "suspects ", "worth ", "worth  a", "worth a ", "worth a  b", "worth a\n", "worth\n", "worths",
           "read", "read ", "read  a", "read a ", "reads a", "letters", "letters ", "letters a b", "letters a ",
           "admit d 1 a=1", "allow b a=1", "forbid c 0", "history", "log", "busy", "twin", "apply", "limit 3", "fetch a",
           "agree a", "unknown", "done", "error", "none", "0", "1 2", "c", "a b", "a\nb", "keepers\nkeepers")


def desk_with(*lines, book=BOOK):
    desk = Desk(Vault(book, LEAST))
    for line in lines:
        desk(line)
    return desk


class Answers(unittest.TestCase):
    def check(self, desk, line, answer):
        self.assertEqual(kinds(desk(line)), kinds(answer))

    def test_a_row_of_lines(self):
        desk = desk_with()
        for line, answer in (
                ("keepers", "c a b"), ("worth a", "1"), ("put 5 0 10006", "done"), ("read b", "5 0 10006"),
                ("read a c b", "5 0 10006"), ("suspects", "none"), ("add 1 7", "done"), ("read b c", "5 7 10006"),
                ("mend c 0", "done"), ("mend c 1", "done"), ("read c b", "5 7 10006"), ("spoil b 2 3", "done"),
                ("suspects", "b"), ("undo", "done"), ("suspects", "none"), ("redo", "done"),
                ("suspects", "b"), ("dismiss c", "done"), ("keepers", "a b"), ("suspects", "a b"), ("worth", "0"),
                ("worth b a", "3"), ("undo", "done"), ("keepers", "c a b"), ("dismiss c", "done")):
            self.check(desk, line, answer)

    def test_put(self):
        for letters in ("0", "1 2", "10006 0 10006", "1 2 3 4 5 6"):
            desk = desk_with()
            self.check(desk, "put " + letters, "done")
            self.check(desk, "read c a b", letters)
            self.assertEqual(desk.vault.present.size, len(letters.split()))
        for line in ("put 10007", "put 1 999999", "put 1 2 3 4 5 6 7", "put " + " ".join(["1"] * 200)):
            self.check(desk, line, "error InvalidFile")

    def test_add(self):
        desk = desk_with("put 1 2")
        self.check(desk, "add 0 10006", "done")
        self.check(desk, "add 1 0", "done")
        self.check(desk, "read b", "0 2")
        for line in ("add 2 1", "add 999999 1", "add 0 10007", "add 0 999999"):
            self.check(desk, line, "error InvalidFile")
        self.check(desk_with(), "add 0 1", "error NoFile")

    def test_mend(self):
        desk = desk_with()
        self.check(desk, "mend c 0", "error NoFile")
        self.check(desk, "mend d 0", "error UnknownName")
        desk = desk_with("put 1 2")
        other = Vault(BOOK, LEAST)
        other.apply(("put", [1, 2]))
        for line, deed in (("mend c 1", ("mend", "c", 1)), ("mend a 0", ("mend", "a", 0))):
            self.check(desk, line, "done")
            other.apply(deed)
            self.assertEqual(desk.vault, other)
        for line, answer in (("mend b 0", "Steady"), ("mend c 2", "UnknownCall"), ("mend d 0", "UnknownName"),
                             ("mend C 0", "UnknownName"), ("mend mend 0", "UnknownName")):
            self.check(desk, line, "error " + answer)

    def test_spoil(self):
        desk = desk_with("put 1 2")
        self.check(desk, "spoil b 1 10006", "done")
        self.assertEqual(desk.vault.letters("b")[1], 10006)
        for line, answer in (("spoil b 3 1", "InvalidValues"), ("spoil b 0 10007", "InvalidValues"),
                             ("spoil d 0 1", "UnknownName")):
            self.check(desk, line, "error " + answer)
        self.check(desk_with(), "spoil b 0 1", "error NoFile")

    def test_dismiss(self):
        desk = desk_with("put 1 2 3 4")
        for line, answer in (("dismiss b", "error InUse"), ("dismiss d", "error UnknownName"), ("dismiss c", "done"),
                             ("dismiss a", "error InvalidSize"), ("put 1", "done"), ("dismiss a", "done"),
                             ("dismiss b", "error InvalidCount"), ("keepers", "b")):
            self.check(desk, line, answer)

    def test_undo_and_redo(self):
        desk = desk_with()
        for line, answer in (("undo", "error NothingLeft"), ("redo", "error NothingLeft"), ("put 1", "done"),
                             ("put 2", "done"), ("undo", "done"), ("read b", "1"), ("redo", "done"), ("read b", "2"),
                             ("redo", "error NothingLeft"), ("undo", "done"), ("undo", "done"),
                             ("undo", "error NothingLeft"), ("read b", "error NoFile")):
            self.check(desk, line, answer)

    def test_suspects(self):
        self.check(desk_with(), "suspects", "error NoFile")
        book = Book.alike("c", "b", "a", "d", keep=2, helpers=3)
        desk = desk_with("put 1 2 3 4 5 6", book=book)
        self.check(desk, "suspects", "none")
        self.check(desk, "spoil a 0 0", "done")
        self.check(desk, "suspects", "c b a d")
        desk = desk_with("put 1 2", "spoil a 0 0", book=book)
        self.check(desk, "suspects", "a")

    def test_worth(self):
        desk = desk_with()
        for line, answer in (("worth", "0"), ("worth c", "1"), ("worth b c", "3"), ("worth b a c", "3"),
                             ("worth c c", "error DuplicateName"), ("worth d", "error UnknownName"),
                             ("worth c b", "3"), ("worth 1", "error UnknownName")):
            self.check(desk, line, answer)
        # The vault keeps what it was asked for.
        self.assertEqual(desk.vault.kept(), [(), ("c",), ("c", "b"), ("c", "a", "b")])
        self.assertEqual(desk.vault.computed, 4)

    def test_read_and_letters(self):
        desk = desk_with()
        for line, answer in (("read a", "error NoFile"), ("read d", "error UnknownName"), ("letters a", "error NoFile"),
                             ("read a a", "error DuplicateName"), ("letters d", "error UnknownName"),
                             ("put 10 0 3", "done"), ("read a", "error Unreadable"), ("read c b", "10 0 3"),
                             ("letters A", "error UnknownName"), ("letters 1", "error UnknownName")):
            self.check(desk, line, answer)
        self.check(desk, "letters a", str(desk.vault.letters("a")[0]))
        self.check(desk, "letters b", " ".join(map(str, desk.vault.letters("b"))))
        self.check(desk, "spoil c 0 7", "done")
        self.check(desk, "read c b", "error Torn")
        self.check(desk, "read b", "10 0 3")

    def test_unknown_lines(self):
        for desk in (desk_with(), desk_with("put 1 2 3", "put 1", "undo", "worth a")):
            before = told_by(desk.vault)
            for line in UNKNOWN:
                self.check(desk, line, "unknown")
            self.assertEqual(told_by(desk.vault), before)

    def test_greatest_numbers(self):
        desk = Desk(Vault(BOOK, 999983))
        self.check(desk, "put 999982 0", "done")
        self.check(desk, "add 1 999982", "done")
        self.check(desk, "spoil a 0 100000", "done")
        self.check(desk, "read b", "999982 999982")
        self.check(desk, "put 999983", "error InvalidFile")

    def test_full_books(self):
        dice = luck(801)
        desk = desk_with("put 1 2 3", book=Book(*full_keepers(dice, 3)))
        for line, answer in (("mend a 19", "done"), ("mend g 7", "done"), ("mend g 20", "error UnknownCall"),
                             ("keepers", "g f e d c b a"), ("suspects", "none"), ("read a b c d e f g", "1 2 3"),
                             ("dismiss c", "error InUse"), ("undo", "done"), ("undo", "done"), ("undo", "done"),
                             ("undo", "error NothingLeft"), ("worth g a", str(desk.vault.twin().worth("a", "g")))):
            self.check(desk, line, answer)


class Told(unittest.TestCase):
    def test_log(self):
        desk = desk_with()
        self.assertEqual(kinds([desk.log(), len(desk), bool(desk), repr(desk), str(desk)]),
                         kinds([[], 0, True, "Desk(0 lines)", "Desk(0 lines)"]))
        lines = ["put 4 8", "keepers", "", "undo", "undo", "\n", "x y"]
        answers = ["done", "c a b", "unknown", "done", "error NothingLeft", "unknown", "unknown"]
        for at, line in enumerate(lines):
            self.assertEqual([desk.say(line), len(desk)], [answers[at], at + 1])
            self.assertEqual(kinds(desk.log()), kinds(list(zip(lines, answers))[:at + 1]))
            self.assertEqual(repr(desk), f"Desk({at + 1} lines)")
        self.assertIs(bool(desk), True)

    def test_say_and_call(self):
        one, other = desk_with(), desk_with()
        for line in ("put 1 2", "read b", "mend b 0", "worth", "nothing", "spoil a 0 1", "suspects"):
            self.assertEqual(one(line), other.say(line))
        self.assertEqual([one.log(), one.vault], [other.log(), other.vault])
        self.assertEqual(one.say(line="keepers"), one(line="keepers"))
        self.assertEqual(len(one), 9)

    def test_the_log_is_a_new_list(self):
        desk = desk_with("keepers")
        desk.log().clear()
        desk.log().append(1)
        self.assertEqual(desk.log(), [("keepers", "c a b")])

    def test_this_very_vault(self):
        vault = Vault(BOOK, LEAST)
        one, other = Desk(vault), Desk(vault=vault)
        self.assertIs(one.vault, vault)
        one("put 5 6")
        self.assertEqual(vault.fetch("b"), [5, 6])
        vault.apply(("add", 0, 1))
        self.assertEqual([one("read b"), other("read b")], ["6 6", "6 6"])
        other("undo")
        self.assertEqual([vault.history(), one("read b")], [(1, 1), "5 6"])
        self.assertEqual([len(one), len(other)], [3, 2])
        with self.assertRaises(AttributeError):
            one.vault = vault


if __name__ == "__main__":
    unittest.main()
