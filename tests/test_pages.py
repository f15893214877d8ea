import re
import unittest

from mendworth.books import Book
from mendworth.codes import Code, fresh
from mendworth.errors import InvalidPage, InvalidText, NothingLeft
from mendworth.pages import read_page, write_page
from mendworth.vault import Vault
from tests.helper import GREATEST, LEAST, full_keepers, held_by, kinds, luck, lucky_falls, lucky_keepers, raised
from tests.test_refused_deeds import page_of

BOOK = Book(("c", 2, [{"b": 2, "a": 1}, {"b": 1}]), ("a", 1, [{"b": 1}]), ("b", 1, []))
EMPTY = "modulus 10007\nkeeper c 2\ncall a=1 b=2\ncall b=1\nkeeper a 1\ncall b=1\nkeeper b 1\nempty\n"
PAGE = ("modulus 10007\nkeeper c 2\ncall a=1 b=2\ncall b=1\nkeeper a 1\ncall b=1\nkeeper b 1\nfile 3\n"
        "c 6 1 2 3\nc 0 10006 0 1\na 10006 0 0 0\nb 77 5 6 7\n")


def lines_of(page):
    return page.split("\n")[:-1]


def page_with(lines):
    return "".join(line + "\n" for line in lines)


def wrong_line_of_book(lines, whole):
    """The index of the first wrong line of the text of a book, or None; whole tells whether the last one ends."""
    keepers, calls = [], []
    for at, line in enumerate(lines):
        keeper = re.fullmatch("keeper ([a-z]{1,8}) [1-6]", line)
        call = re.fullmatch("call((?: [a-z]{1,8}=[1-6])+)", line)
        helpers = [word[:-2] for word in call[1].split()] if call else []
        if at == len(lines) - 1 and not whole or not keeper and not call:
            return at
        if keeper and (keeper[1] in keepers or len(keepers) == 7):
            return at
        if call and (not keepers or helpers != sorted(set(helpers))
                     or sum(owner == keepers[-1] for owner, _, _ in calls) == 20):
            return at
        keepers += [keeper[1]] if keeper else []
        calls += [(keepers[-1], helpers, at)] if call else []
    return next((at for owner, helpers, at in calls if owner in helpers or not set(helpers) <= set(keepers)), None)


def wrong_line(page):
    """The index of the first wrong line of a page, or None, as the document tells it."""
    whole = page.endswith("\n")
    lines = page.split("\n")[:-1] if whole else page.split("\n")
    ended = len(lines) if whole else len(lines) - 1
    found = re.fullmatch("modulus (10007|10009|999983)", lines[0] if lines else "")
    if not found or ended < 1:
        return 0
    modulus = int(found[1])
    end = next((at for at, line in enumerate(lines) if at > 0 and not re.match("(keeper|call)( |$)", line)),
               len(lines))
    wrong = wrong_line_of_book(lines[1:end], whole or end < len(lines))
    if wrong is not None or end == 1:
        return 1 + (wrong or 0)
    keeps = [line.split(" ")[1:] for line in lines[1:end] if line.startswith("keeper")]
    names = [name for name, keep in keeps for _ in range(int(keep))]
    if end >= ended:
        return end
    if lines[end] == "empty":
        return None if len(lines) == end + 1 else end + 1
    size = re.fullmatch("file ([1-9][0-9]?)", lines[end])
    if not size or int(size[1]) > len(names):
        return end
    for at, name in enumerate(names, end + 1):
        row = re.fullmatch(name + "( (0|[1-9][0-9]{0,5})){" + str(int(size[1]) + 1) + "}", lines[at] if at < ended
                           else "")
        if not row or any(int(word) >= modulus for word in lines[at].split(" ")[1:]):
            return at
    return None if len(lines) == end + 1 + len(names) else end + 1 + len(names)


class Written(unittest.TestCase):
    def test_without_a_file(self):
        self.assertEqual(kinds(write_page(Vault(BOOK, LEAST))), kinds(EMPTY))
        self.assertEqual(write_page(vault=Vault(Book(("z", 6, [])), GREATEST, limit=1)),
                         "modulus 999983\nkeeper z 6\nempty\n")

    def test_with_a_file(self):
        vault = Vault(Book(("b", 2, [{"a": 1}]), ("a", 1, [])), LEAST)
        vault.apply(("put", [10, 10006]))
        rows = vault.present.table()
        letters = [vault.letters("b")[0], vault.letters("b")[1], vault.letters("a")[0]]
        vectors = [*rows["b"], *rows["a"]]
        self.assertEqual(write_page(vault), "modulus 10007\nkeeper b 2\ncall a=1\nkeeper a 1\nfile 2\n" + "".join(
            f"{name} {letter} {row[0]} {row[1]}\n" for name, letter, row in zip("bba", letters, vectors)))

    def test_lucky_vaults(self):
        dice = luck(701)
        for many in (1, 2, 3, 4, 5):
            book = Book(*lucky_keepers(dice, many, 2, 3))
            vault = Vault(book, LEAST)
            file = [dice.randrange(LEAST) for _ in range(dice.randint(1, book.kept_by_all()))]
            vault.apply(("put", file), *[("mend", name, at) for name, at in lucky_falls(dice, book, 2)])
            self.assertEqual(write_page(vault), page_of(vault.present, file))

    def test_the_vault_stays(self):
        vault = read_page(PAGE)
        before = held_by(vault)
        write_page(vault)
        self.assertEqual(held_by(vault), before)


class Read(unittest.TestCase):
    def check(self, vault):
        """Whether the page of a vault is read as an equal vault without steps and kept worths."""
        page = write_page(vault)
        told = read_page(page)
        self.assertIs(told.__class__, Vault)
        self.assertTrue(told == vault)
        self.assertEqual(held_by(told), held_by(vault))
        self.assertEqual(kinds([told.limit, told.history(), told.kept(), told.computed, told.busy]),
                         kinds([40, (0, 0), [], 0, False]))
        raised(self, NothingLeft, told.undo)
        raised(self, NothingLeft, told.redo)
        self.assertEqual(write_page(told), page)

    def test_named_pages(self):
        self.assertEqual(read_page(EMPTY), Vault(BOOK, LEAST))
        vault = read_page(text=PAGE)
        self.assertEqual([vault.book, vault.modulus, vault.present],
                         [BOOK, LEAST, Code(BOOK, LEAST, 3, {"c": [(1, 2, 3), (10006, 0, 1)], "a": [(0, 0, 0)],
                                                             "b": [(5, 6, 7)]})])
        self.assertEqual(kinds({name: vault.letters(name) for name in BOOK}),
                         kinds({"c": [6, 0], "a": [10006], "b": [77]}))
        # Neither the code is sound nor do the letters agree.
        self.assertEqual([vault.present.weak_lot(), vault.agree("a")], [("a",), False])
        self.assertEqual(write_page(vault), PAGE)

    def test_vaults(self):
        dice = luck(711)
        for many in (1, 2, 3, 4, 5, 6):
            book = Book(*lucky_keepers(dice, many, 2, 4))
            vault = Vault(book, dice.choice((LEAST, GREATEST)), limit=dice.randint(1, 99))
            self.check(vault)
            vault.apply(("put", [dice.randrange(LEAST) for _ in range(dice.randint(1, book.kept_by_all()))]))
            self.check(vault)
            vault.worth(*book)
            for name, at in lucky_falls(dice, book, 2):
                vault.apply(("mend", name, at), ("spoil", name, 0, 5))
                self.check(vault)
            vault.undo()
            self.check(vault)

    def test_full_books(self):
        book = Book(*full_keepers(luck(712)))
        vault = Vault(book, GREATEST)
        self.check(vault)
        vault.apply(("put", list(range(1, 21))), ("mend", "a", 19))
        self.check(vault)

    def test_a_vault_that_was_read_goes_on(self):
        vault = Vault(BOOK, LEAST)
        vault.apply(("put", [5, 6]))
        told = read_page(write_page(vault))
        for one in (vault, told):
            one.apply(("mend", "c", 1), ("add", 0, 1))
        self.assertEqual(told, vault)
        self.assertEqual(told.history(), (1, 0))
        told.undo()
        self.assertEqual(told.fetch("c"), [5, 6])
        self.assertEqual([told.worth("a"), told.kept(), told.computed], [1, [("a",)], 1])

    def test_all_sizes(self):
        for size in range(1, 5):
            code = fresh(BOOK, LEAST, size)
            self.assertEqual(read_page(page_of(code, [7] * size)).present, code)


class Refused(unittest.TestCase):
    def refused(self, page, line):
        self.assertEqual(kinds(raised(self, InvalidPage, read_page, page).line), kinds(line))

    def test_no_strings(self):
        for value in (None, True, False, 0, 1, (), (EMPTY,), [], [EMPTY], {}, {EMPTY: 1}, [[(None, {"a": [1]})]]):
            self.refused(value, 0)

    def test_the_empty_string(self):
        self.refused("", 0)
        self.refused("\n", 0)
        self.refused("\n" + EMPTY, 0)
        self.refused(" ", 0)

    def test_the_modulus(self):
        for line in ("modulus", "modulus ", "modulus 010007", "modulus 10008", "modulus 7", "modulus 0",
                     "modulus -10007", "modulus +10007", "modulus 1000003", "modulus 10007 ", "modulus  10007",
                     " modulus 10007", "Modulus 10007", "modulus 10007 1", "modulus 10007\r", "modulus a", "10007",
                     "modulus\t10007", "modulus 10_007", "modulus 1e4", "modulus " + "1" * 8000, "", "empty",
                     "keeper a 1", "moduluss 10007", "modulus 10007.0"):
            for page in (EMPTY, PAGE):
                lines = lines_of(page)
                self.refused(page_with([line, *lines[1:]]), 0)
                self.refused(line, 0)
                self.refused(line + "\n", 0)

    def check(self, page):
        """Whether any page is read or refused as it must be."""
        line = wrong_line(page)
        if line is None:
            self.assertEqual(write_page(read_page(page)), page)
        else:
            self.refused(page, line)
        return line

    def test_missing_lines(self):
        for page in (EMPTY, PAGE):
            lines = lines_of(page)
            self.assertEqual([self.check(page_with(lines[:many])) for many in range(8)], [0, 1, 2, 2, 2, 2, 2, 7])
            self.assertIsNone(self.check(page))
        self.assertEqual([self.check(page_with(lines[:many])) for many in range(8, 12)], [8, 9, 10, 11])

    def test_missing_lines_of_a_book_that_is_right(self):
        lines = ["modulus 10007", "keeper a 1", "call b=1", "keeper b 1", "call a=6", "call a=1"]
        for many in (4, 5, 6):
            self.refused(page_with(lines[:many]), many)
            self.refused(page_with([*lines[:many], "file 2"]), many + 1)
            self.refused(page_with([*lines[:many], "file 2", "a 1 1 0"]), many + 2)

    def test_line_feeds(self):
        for page in (EMPTY, PAGE):
            lines = lines_of(page)
            for many in range(1, len(lines) + 1):
                # The last line counts ahead of what calls ask.
                self.refused("\n".join(lines[:many]), many - 1)

    def test_further_lines(self):
        for page in (EMPTY, PAGE):
            many = len(lines_of(page))
            for line in ("", "empty", "b 77 5 6 7", "keeper d 1", "file 3", " ", "modulus 10007"):
                self.refused(page + line + "\n", many)
                self.refused(page + line + "\n" + "x\n", many)
                if line:
                    self.refused(page + line, many)

    def test_lines_that_stand_twice(self):
        for page in (EMPTY, PAGE):
            lines = lines_of(page)
            found = [self.check(page_with([*lines[:at + 1], *lines[at:]])) for at in range(len(lines))]
            # A call may stand twice.
            self.assertEqual(found[:8], [1, 2, None, None, 5, None, 7, 8])

    def test_lines_that_are_left_out(self):
        for page in (EMPTY, PAGE):
            lines = lines_of(page)
            found = [self.check(page_with([*lines[:at], *lines[at + 1:]])) for at in range(len(lines))]
            self.assertEqual(found[:2], [0, 1])
            self.assertEqual(found[7], 7)

    def test_lines_that_are_added_or_changed(self):
        for page in (EMPTY, PAGE):
            lines = lines_of(page)
            for line in (*lines, "", " ", "empty", "file 1", "file 4", "keeper d 1", "keeper d 2", "call a=1",
                         "call b=1 c=1", "keeper", "call", "keepers", "c 1 2 3 4", "a 0 0 0 0", "b 1 1", "x", "0",
                         "modulus 10009", "keeper e 6 ", "call  a=1", "c 10007 0 0 0", "a 0 0 0 10007"):
                for at in range(len(lines) + 1):
                    self.check(page_with([*lines[:at], line, *lines[at:]]))
                    self.check(page_with([*lines[:at], line, *lines[at + 1:]]))
                    self.check("\n".join([*lines[:at], line]))

    def test_two_lines_in_each_others_place(self):
        for page in (EMPTY, PAGE):
            lines = lines_of(page)
            for one in range(len(lines)):
                for other in range(one):
                    turned = list(lines)
                    turned[one], turned[other] = turned[other], turned[one]
                    self.check(page_with(turned))

    def test_wrong_lines_of_the_book(self):
        for at, line in ((1, "keeper c 7"), (1, "keeper C 2"), (1, "keeper c  2"), (1, "keeper c 02"), (1, "keeper"),
                         (2, "call"), (2, "call b=2 a=1"), (2, "call a=0 b=2"), (2, "call a=1  b=2"), (3, "call b"),
                         (4, "keeper c 1"), (4, "keeper a 1 "), (5, "call a=1"), (5, "call d=1"), (6, "keeper b"),
                         (6, "call d=1"), (3, "call c=1"), (2, "call a=1 b=7")):
            for page in (EMPTY, PAGE):
                lines = lines_of(page)
                lines[at] = line
                # Without b some calls ahead ask no keeper.
                self.refused(page_with(lines), 2 if (at, line) == (6, "call d=1") else at)

    def test_other_lines_in_the_book(self):
        for line in ("", "empty", "keepers a 1", "calls b=1", " keeper a 1", "Keeper a 1", "file 3", "c 6 1 2 3",
                     "keeper\ta 1", "modulus 10007"):
            for page in (EMPTY, PAGE):
                lines = lines_of(page)
                self.refused(page_with([lines[0], line, *lines[1:]]), 1)
                # The book ends there; its first call asks keepers that it has not.
                self.refused(page_with([*lines[:3], line, *lines[3:]]), 2)
                # The book that ends there is right; only what stands behind it is wrong.
                self.refused(page_with([lines[0], "keeper z 1", line, *lines[1:]]), 3 if line == "empty" else 2)

    def test_the_book_counts_ahead_of_the_lines_behind_it(self):
        lines = lines_of(PAGE)
        lines[7] = "file 0"
        self.refused(page_with(lines), 7)
        lines[5] = "call z=1"
        self.refused(page_with(lines), 5)
        lines[6] = "keeper b 0"
        self.refused(page_with(lines), 6)
        lines[0] = "modulus 10008"
        self.refused(page_with(lines), 0)

    def test_the_first_call_that_asks_no_keeper(self):
        lines = ["modulus 10007", "keeper a 1", "call b=1", "call c=1", "keeper b 1", "call b=1", "empty"]
        self.refused(page_with(lines), 3)
        lines[3] = "call b=6"
        self.refused(page_with(lines), 5)
        lines[5] = "call a=6"
        self.assertEqual(len(read_page(page_with(lines))), 2)

    def test_an_eighth_keeper_and_a_21st_call(self):
        keepers = [f"keeper {name} 1" for name in "abcdefgh"]
        self.refused(page_with(["modulus 10007", *keepers, "empty"]), 8)
        self.assertEqual(len(read_page(page_with(["modulus 10007", *keepers[:7], "empty"]))), 7)
        calls = ["call b=1"] * 21
        self.refused(page_with(["modulus 10007", "keeper a 1", *calls, "keeper b 1", "empty"]), 22)
        self.assertEqual(len(read_page(page_with(["modulus 10007", "keeper a 1", *calls[1:], "keeper b 1",
                                                  "empty"]))), 2)

    def test_the_line_of_the_file(self):
        for line in ("", " ", "empty ", " empty", "Empty", "file", "file ", "file 0", "file 5", "file 03", "file -1",
                     "file +3", "file 3 ", "file  3", " file 3", "file 3 3", "file a", "File 3", "file 1000000",
                     "file " + "1" * 8000, "files 3", "empty 1", "none", "c 6 1 2 3", "modulus 10007", "file 3.0"):
            for page in (EMPTY, PAGE):
                lines = lines_of(page)
                lines[7] = line
                self.refused(page_with(lines), 7)

    def test_a_file_of_another_size(self):
        for size in (1, 2, 4):
            lines = lines_of(PAGE)
            lines[7] = f"file {size}"
            self.refused(page_with(lines), 8)

    def test_wrong_rows(self):
        for at in range(8, 12):
            name, *numbers = lines_of(PAGE)[at].split(" ")
            wrong = ["", name, " ".join([name, *numbers[1:]]), " ".join([name, *numbers, "0"]), f" {name} 1 2 3 4",
                     f"{name}  1 2 3", f"{name} 1 2 3 4 ", "d 1 2 3 4", "1 2 3 4", f"{name.upper()} 1 2 3 4", "empty",
                     "keeper d 1", "call a=1", f"{'a' if name == 'b' else 'b'} 1 2 3 4", f"{name} 1,2 3 4"]
            wrong += [" ".join([name, *numbers[:place], value, *numbers[place + 1:]]) for place in range(4)
                      for value in ("10007", "10008", "999999", "1000000", "-1", "+1", "01", "00", "", "a", "1.0",
                                    "1_0", "1" * 8000, "0x1", "1\r", "1\t")]
            for line in wrong:
                lines = lines_of(PAGE)
                lines[at] = line
                self.refused(page_with(lines), at)

    def test_rows_in_another_order(self):
        lines = lines_of(PAGE)
        lines[10], lines[11] = lines[11], lines[10]
        self.refused(page_with(lines), 10)
        lines = lines_of(PAGE)
        lines[9], lines[10] = lines[10], lines[9]
        self.refused(page_with(lines), 9)
        lines = lines_of(PAGE)
        lines[8], lines[9] = lines[9], lines[8]
        self.assertEqual(read_page(page_with(lines)).letters("c"), [0, 6])

    def test_each_sign(self):
        for page in (EMPTY, PAGE):
            for at in range(len(page)):
                for sign in ("", "x", " ", "0", "1", "=", "\n", "-", "c", "b"):
                    for rest in (at, at + 1):
                        self.check(page[:at] + sign + page[rest:])

    def test_letters_below_the_modulus(self):
        page = EMPTY.replace("10007", "10009").replace("empty", "file 1")
        rows = "c 10008 10007\nc 0 0\na 1 10008\nb 10008 1\n"
        self.assertEqual(read_page(page + rows).letters("c"), [10008, 0])
        self.refused(page.replace("10009", "10007") + rows, 8)


if __name__ == "__main__":
    unittest.main()
