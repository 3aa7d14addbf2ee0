"""The walk of all fillings with told lengths (points 63 and 64)."""

from twiceeach.gluing import check_lengths
from twiceeach.walks import told_walk


def lengths_walk(book, lengths):
    """Return the walk of the lengths and the rests, or None if no filling with the lengths fills the book."""
    check_lengths(book, lengths)
    found = told_walk(book, lengths)
    if found is None:
        return None
    walk, freed, left = found
    return walk, {name: (kind, left[name]) for name, kind in freed}


def rest_places(rests):
    """Return the number of the free places of all freed pieces."""
    return sum([length if kind == "any" else (length + 1) // 2 for kind, length in rests.values()])
