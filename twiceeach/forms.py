"""The forms of walks (points 43 to 47)."""

from twiceeach.errors import BadFilling, BadWalk
from twiceeach.fillings import is_own_mirror, put_in
from twiceeach.following import freed_in, is_whole, stations
from twiceeach.pairs import substitution
from twiceeach.symbols import joined_names, replaced


def is_free_text(kind, text):
    """Return True if the text may be the free text of a piece that is freed with the kind."""
    return text != "" and (kind == "any" or is_own_mirror(text))


class Form:
    """A row for each piece of a book, and a kind for each free piece."""

    def __init__(self, rows, free):
        self.rows = {name: tuple(rows[name]) for name in sorted(rows)}
        self.free = {name: free[name] for name in sorted(free)}

    @property
    def weight(self):
        """The number of symbols in all rows."""
        return sum([len(row) for row in self.rows.values()])

    def fill(self, texts):
        """Return the filling that the form and the free texts give, its keys in ascending order."""
        for name in joined_names(self.free, texts):
            if name not in self.free or name not in texts or not is_free_text(self.free[name], texts[name]):
                raise BadFilling(name)
        return {name: put_in(row, texts) for name, row in self.rows.items()}


def first_rows(book, lot):
    """Return the rows with which the making of a form begins, a dict."""
    return {name: () if name in lot else (name,) for name in book.pieces}


def next_rows(rows, move):
    """Return the rows after a move, a new dict."""
    name, content = substitution(move)
    return {key: replaced(row, name, content) for key, row in rows.items()}


def form_of(book, walk):
    """Return the form of a walk of the book."""
    lot, taken = walk
    results = stations(book, walk)
    if len(results) <= len(taken):
        # The start is one of the results, and no move.
        raise BadWalk(max(0, len(results) - 1))
    if not is_whole(results, taken):
        raise BadWalk(len(taken))
    rows = first_rows(book, lot)
    for move in taken:
        rows = next_rows(rows, move)
    return Form(rows, dict(freed_in(results)))
