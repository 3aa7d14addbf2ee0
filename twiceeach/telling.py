"""What fits told lengths of some of the pieces of a book (point 144)."""

from twiceeach.gluing import Gluing
from twiceeach.letting import let_lengths
from twiceeach.listing import fillings


def told_number(book, told):
    """Return the number of fillings with the told lengths, or None if some piece has no told length."""
    return Gluing(book, told).many if len(told) == len(book.pieces) else None


def told_fillings(book, told, most):
    """Return the fillings with totals up to `most` that fill the book and have the told lengths, a list in order."""
    found = fillings(book, most=most)
    return [filling for filling in found if all([len(filling[name]) == told[name] for name in told])]


def told_let_lengths(book, told, most):
    """Return the lengths with sums up to `most` that are let and have the told lengths, a list in order."""
    found = let_lengths(book, most=most)
    return [lengths for lengths in found if all([lengths[name] == told[name] for name in told])]
