"""The cuts of two rows that are alike as rings (points 95 to 98)."""

from twiceeach.books import Book
from twiceeach.pairs import lots_of
from twiceeach.symbols import fresh_names, is_piece, name_of, names_in, replaced


def cuts(left, right):
    """Return the cuts of two rows, a tuple; they belong to the right row."""
    between = [("between", at) for at in range(max(1, len(right)))]
    within = [("within", at) for at, symbol in enumerate(right) if is_piece(symbol)]
    return tuple(between + within)


def cut_book(letters, left, right, cut):
    """Return the book of a cut, and the names of the cut piece and its two parts, or None for a cut between."""
    whole = Book(letters, [(left, right)])
    word, at = cut
    if word == "between":
        return Book(whole.letters, [(left, right[at:] + right[:at])]), None
    name = name_of(right[at])
    first, second = fresh_names(names_in(left, right), 2)
    content = (first, second)
    ring = replaced(right, name, content)
    # The cut lies behind the first of the two symbols that come in the place of the one at the index.
    place = len(replaced(right[:at], name, content)) + 1
    made = Book(letters, [(replaced(left, name, content), ring[place:] + ring[:place])])
    return made, (name, first, second)


def cut_lots(made):
    """Return the lots of a cut, a tuple, for a pair that `cut_book` returns."""
    book, parts = made
    if parts is None:
        return lots_of(book.pieces)
    _, first, second = parts
    return lots_of(tuple(name for name in book.pieces if name not in (first, second)))
