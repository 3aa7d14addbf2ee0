"""Books of a small shape (points 121 and 122)."""

from twiceeach.symbols import is_piece, is_turned, name_of

PATTERNS = (
    ("same", ("A",), ("B",)),
    ("mirror", ("A",), ("B~",)),
    ("own", ("A",), ("A~",)),
    ("commute", ("A", "B"), ("B", "A")),
    ("lead", ("A", "C"), ("C", "B")),
    ("leadmirror", ("A", "C"), ("C", "A~")),
    ("wholemirror", ("A", "B"), ("B~", "A~")),
    ("bothmirror", ("A", "B"), ("A~", "B~")),
    ("squares", ("A", "A"), ("B", "B")),
    ("mirrorsquares", ("A", "A"), ("B", "B~")),
)


def fitting_names(wanted, row):
    """Return the names for the roles of the wanted row with which it becomes the row, a dict, or None."""
    if len(wanted) != len(row):
        return None
    names = {}
    for role, symbol in zip(wanted, row):
        if not is_piece(symbol) or is_turned(role) != is_turned(symbol):
            return None
        if names.setdefault(name_of(role), name_of(symbol)) != name_of(symbol):
            return None
    return names if len(set(list(names.values()))) == len(names) else None


def fitting_sides(pattern, left, right):
    """Return the names for the roles with which the pattern becomes the equation, in order, or None."""
    _, one, other = pattern
    if len(left) != len(one):
        return None
    names = fitting_names(one + other, left + right)
    return None if names is None else tuple(names[role] for role in sorted(names))


def shape_of(book):
    """Return the word of the shape of the book and the names of its roles, or None if it has no small shape."""
    if len(book.equations) != 1:
        return None
    left, right = book.equations[0]
    for pattern in PATTERNS:
        for names in (fitting_sides(pattern, left, right), fitting_sides(pattern, right, left)):
            if names is not None:
                return pattern[0], names
    return None
