"""Rules that hold of the rings of two rows (point 139)."""

from twiceeach.books import Book
from twiceeach.cutting import mended_filling
from twiceeach.effects import combine
from twiceeach.rings import ring_books
from twiceeach.rules import check_rule, effects_keep
from twiceeach.tables import Table


def ring_vector(whole, made, vector):
    """Return what a vector of the book of a cut gives; `whole` is the book of the two rows."""
    book, parts = made
    effects = dict(zip(book.pieces, vector))
    if parts is not None:
        name, first, second = parts
        effects[name] = combine(effects[first], effects[second])
    return tuple(effects[name] for name in whole.pieces)


def ring_vectors(letters, left, right, machines):
    """Return the vectors of all fillings that make the two rows alike as rings, a tuple in ascending order."""
    books = ring_books(letters, left, right)
    whole = Book(letters, [(left, right)])
    found = {}
    for made in books:
        book, _ = made
        for vector in Table(book, machines).vectors:
            found[ring_vector(whole, made, vector)] = True
    return tuple(sorted(found))


def ring_holds(letters, left, right, machines, rule):
    """Return True if the rule holds of the rings of the two rows."""
    return ring_breaker(letters, left, right, machines, rule) is None


def ring_breaker(letters, left, right, machines, rule):
    """Return a filling that makes the two rows alike as rings and does not keep the rule, or None if it holds."""
    books = ring_books(letters, left, right)
    whole = Book(letters, [(left, right)])
    check_rule(whole, machines, rule)
    for made in books:
        book, parts = made
        table = Table(book, machines)
        for vector in table.vectors:
            if not effects_keep(whole, machines, rule, ring_vector(whole, made, vector)):
                filling = table.filling_with(vector)
                return filling if parts is None else mended_filling(filling, *parts)
    return None
