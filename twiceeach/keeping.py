"""Shortest walks, kept walks and renamed walks (point 140)."""

from twiceeach.names import renamed_symbol
from twiceeach.pairs import END, lots_of
from twiceeach.papers import judge_walk
from twiceeach.symbols import name_of
from twiceeach.web import live_starts, live_steps


def first_ways(book):
    """Return how each pair is found first, a dict with tuples of a lot, or the pair before it, and a move, or None.

    Pairs that are found behind the end are left out, as finding all pairs may take long.
    """
    came = {}
    for lot, _, pair in live_starts(book, lots_of(book.pieces)):
        came.setdefault(pair, (lot, None))
    waiting = list(came)
    at = 0
    while at < len(waiting) and END not in came:
        pair = waiting[at]
        for move, _, behind in live_steps(pair):
            if behind not in came:
                came[behind] = (pair, move)
                waiting.append(behind)
        at += 1
    return came


def first_walk(book):
    """Return a shortest walk of the book, or None if it has no walk."""
    came = first_ways(book)
    if END not in came:
        return None
    taken = []
    before, move = came[END]
    while move is not None:
        taken.append(move)
        before, move = came[before]
    return before, tuple(taken[::-1])


def kept_walk(book, walk):
    """Return the walk if it is one of the book, otherwise a shortest walk of the book, or None."""
    if walk is not None and judge_walk(book, walk):
        return walk
    return first_walk(book)


def renamed_walk(walk, table):
    """Return the walk with the names that the table tells."""
    lot, taken = walk
    names = tuple(sorted([name_of(table[name]) for name in lot]))
    return names, tuple((word, renamed_symbol(z, table), renamed_symbol(w, table)) for word, z, w in taken)
