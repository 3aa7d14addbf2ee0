"""Merging books and taking them apart (point 28)."""

from twiceeach.books import Book
from twiceeach.errors import BadLetters, NoSuchEquation
from twiceeach.lots import Lots
from twiceeach.symbols import names_in


def merged(*books):
    """Return the merged book of one or more books over one alphabet."""
    letters = books[0].letters
    for book in books:
        if book.letters != letters:
            raise BadLetters(book.letters)
    return Book(letters, [equation for book in books for equation in book.equations])


def extended(book, left, right):
    """Return the book with one more equation at the end."""
    return Book(book.letters, [*book.equations, (left, right)])


def shortened(book, number):
    """Return the book without the equation of the number."""
    if not 0 <= number < len(book.equations):
        raise NoSuchEquation(number)
    return Book(book.letters, book.equations[:number] + book.equations[number + 1:])


def components(book):
    """Return the components of the book, a tuple of books in the order of their first equations."""
    names = [names_in(*equation) for equation in book.equations]
    lots = Lots(len(names))
    for one, others in enumerate(names):
        for other in range(one):
            if any([name in names[other] for name in others]):
                lots.glue(one, other)
    return tuple(Book(book.letters, [book.equations[at] for at in lot]) for lot in lots.classes())
