"""Books that are turned, swapped, backward, toggled or straightened (points 91 and 92)."""

from twiceeach.books import Book
from twiceeach.errors import BadNames
from twiceeach.symbols import is_turned, name_of, replaced, turned, turned_symbol


def turned_book(book):
    """Return the book with each row turned."""
    return Book(book.letters, [(turned(left), turned(right)) for left, right in book.equations])


def swapped_book(book):
    """Return the book with the two sides of each equation exchanged."""
    return Book(book.letters, [(right, left) for left, right in book.equations])


def backward_book(book):
    """Return the book with the symbols of each row in the opposite order."""
    return Book(book.letters, [(left[::-1], right[::-1]) for left, right in book.equations])


def toggled_book(book, name):
    """Return the book with each standing of the piece replaced by the turned symbol."""
    if name not in book.pieces:
        raise BadNames(name)
    content = (turned_symbol(name),)
    equations = [(replaced(left, name, content), replaced(right, name, content)) for left, right in book.equations]
    return Book(book.letters, equations)


def is_turned_first(book, name):
    """Return True if the first standing of the piece is turned."""
    for left, right in book.equations:
        for symbol in left + right:
            if name_of(symbol) == name:
                return is_turned(symbol)
    return False


def straightened_book(book):
    """Return the book with each piece toggled whose first standing is turned, and the names of these pieces."""
    names = tuple(name for name in book.pieces if is_turned_first(book, name))
    made = book
    for name in names:
        made = toggled_book(made, name)
    return made, names
