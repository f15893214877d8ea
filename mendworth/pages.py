"""The pages of vaults: text from which an equal vault can be read."""

from mendworth.books import Book
from mendworth.codes import Code
from mendworth.errors import InvalidPage, InvalidText
from mendworth.letters import is_modulus, is_numeral
from mendworth.vault import vault_with


def line_of_row(name, letter, row):
    """The line of a page for a letter of a keeper and its vector, without its line feed."""
    return " ".join([name] + [str(number) for number in [letter, *row]])


def lines_of_file(vault):
    """The lines of a page behind the book, without their line feeds."""
    code = vault.present
    if code is None:
        return ["empty"]
    return [f"file {code.size}"] + [line_of_row(name, letter, row) for name in vault.book
                                    for letter, row in zip(vault.letters(name), code.vectors(name))]


def write_page(vault):
    """The page of a vault."""
    lines = lines_of_file(vault)
    return f"modulus {vault.modulus}\n" + vault.book.text() + "".join([line + "\n" for line in lines])


def check_there(lines, at):
    """Raises an error if a page has no whole line with an index; behind the last line feed stands the last item."""
    if at >= len(lines) - 1:
        raise InvalidPage(at)


def number_behind(word, line):
    """The number that a line tells behind a word, or -1 if it is no such line."""
    words = line.split(" ")
    return int(words[1]) if len(words) == 2 and words[0] == word and is_numeral(words[1]) else -1


def end_of_book(lines):
    """The index of the first line, behind that of the modulus, that belongs to no book."""
    at = 1
    while at < len(lines) and lines[at].split(" ")[0] in ("keeper", "call"):
        at = at + 1
    return at


def book_told(lines, end):
    """The book that the lines of a page ahead of an index tell, with all that is behind the one of the modulus."""
    text = "\n".join(lines[1:end]) + ("\n" if end < len(lines) else "")
    try:
        return Book.read(text)
    except InvalidText as error:
        raise InvalidPage(1 + error.line)


def row_told(line, name, modulus, size):
    """The letter of a keeper and its vector that a line tells, in one list, or None if it is no such line."""
    words = line.split(" ")
    if len(words) != 2 + size or words[0] != name or not all([is_numeral(word) for word in words[1:]]):
        return None
    row = [int(word) for word in words[1:]]
    return row if all([letter < modulus for letter in row]) else None


def rows_told(lines, at, book, modulus, size):
    """A table from the names to the lists of the rows that the lines from an index on tell."""
    rows = {name: [] for name in book}
    for name in book:
        for _ in range(book.keep(name)):
            check_there(lines, at)
            row = row_told(lines[at], name, modulus, size)
            if row is None:
                raise InvalidPage(at)
            rows[name].append(row)
            at = at + 1
    return rows


def check_end(lines, at):
    """Raises an error unless a page has no line with this index."""
    if lines[at:] != [""]:
        raise InvalidPage(at)


def file_told(lines, end, book, modulus):
    """The code and the letters that the lines from the one of the file on tell."""
    size = number_behind("file", lines[end])
    if not 1 <= size <= book.kept_by_all():
        raise InvalidPage(end)
    rows = rows_told(lines, end + 1, book, modulus, size)
    check_end(lines, end + 1 + book.kept_by_all())
    code = Code(book, modulus, size, {name: [row[1:] for row in rows[name]] for name in rows})
    return code, {name: [row[0] for row in rows[name]] for name in rows}


def read_page(text):
    """The vault with a page, without steps and kept worths."""
    if not isinstance(text, str):
        raise InvalidPage(0)
    lines = text.split("\n")
    check_there(lines, 0)
    modulus = number_behind("modulus", lines[0])
    if not is_modulus(modulus):
        raise InvalidPage(0)
    end = end_of_book(lines)
    book = book_told(lines, end)
    check_there(lines, end)
    if lines[end] == "empty":
        check_end(lines, end + 1)
        return vault_with(book, modulus, None, None)
    code, values = file_told(lines, end, book, modulus)
    return vault_with(book, modulus, code, values)
