"""The written form of desks (point 145)."""

from twiceeach.errors import BadText
from twiceeach.gluing import MOST_LENGTH
from twiceeach.texts import format_book, parse_book

WORD = "length"


def format_desk(book, lengths):
    """Return the written form of a desk with the book and the told lengths."""
    return "\n".join([format_book(book), *[f"{WORD} {name} {lengths[name]}" for name in sorted(lengths)]])


def book_lines(lines):
    """Return the number of lines ahead of the first length line; line 1 is none."""
    for at, line in enumerate(lines):
        if at > 0 and line.partition(" ")[0] == WORD:
            return at
    return len(lines)


def is_length(text):
    """Return True if the string is a length that may be told, in decimal digits."""
    return text in [str(length) for length in range(MOST_LENGTH + 1)]


def is_length_line(line, names, before):
    """Return True if the line tells the length of one of the names behind the name `before`."""
    parts = line.split(" ")
    return len(parts) == 3 and parts[0] == WORD and parts[1] in names and parts[1] > before and is_length(parts[2])


def parse_desk(text):
    """Return the book and the told lengths of the desk that the string is the written form of."""
    lines = text.split("\n")
    many = book_lines(lines)
    book = parse_book("\n".join(lines[:many]))
    lengths = {}
    before = ""
    for at, line in enumerate(lines[many:]):
        if not is_length_line(line, book.pieces, before):
            raise BadText(many + at + 1)
        _, before, digits = line.split(" ")
        lengths[before] = int(digits)
    return book, lengths
