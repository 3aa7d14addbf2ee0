"""Cutting a piece into two (points 65 and 66)."""

from twiceeach.books import Book
from twiceeach.errors import BadNames
from twiceeach.symbols import fresh_names, replaced


def cut_piece(book, name):
    """Return the book with the piece cut into two, and the names of the first and the second one."""
    if name not in book.pieces:
        raise BadNames(name)
    first, second = fresh_names(book.pieces, 2)
    content = (first, second)
    equations = [(replaced(left, name, content), replaced(right, name, content)) for left, right in book.equations]
    return Book(book.letters, equations), first, second


def with_texts(filling, gone, texts):
    """Return the filling without the names that are gone and with the texts, its keys in ascending order."""
    made = {name: text for name, text in filling.items() if name not in gone}
    for name, text in texts.items():
        made[name] = text
    return {name: made[name] for name in sorted(made)}


def cut_filling(filling, name, first, second, at):
    """Return the filling in which the text of the piece is cut at the index."""
    text = filling[name]
    return with_texts(filling, (name,), {first: text[:at], second: text[at:]})


def mended_filling(filling, name, first, second):
    """Return the filling in which the piece has the texts of the first and the second one."""
    return with_texts(filling, (first, second), {name: filling[first] + filling[second]})
