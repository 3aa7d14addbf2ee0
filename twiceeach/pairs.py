"""Pairs of rows, settling them, and moves (points 14 to 18)."""

from twiceeach.symbols import MARK, is_letter, is_piece, is_turned
from twiceeach.symbols import name_of, replaced, standings, turned_symbol, without

END = ((), ())


def settle(pair):
    """Return None for a pair that settles to a dead pair, otherwise the freed pieces and the settled pair."""
    left, right = pair
    freed = []
    # Equal symbols and turned symbols of each other are just those that have one name.
    while left and right and name_of(left[0]) == name_of(right[0]):
        one, other = left[0], right[0]
        left, right = left[1:], right[1:]
        if is_piece(one) and standings(name_of(one), left, right) == 0:
            freed.append((name_of(one), "any" if one == other else "mirror"))
    if is_dead(left, right):
        return None
    return tuple(freed), (left, right)


def is_dead(left, right):
    """Return True if the pair of the two rows, which is settled, is dead."""
    if not left or not right:
        return left != right
    if MARK in (left[0], right[0]):
        return True
    return is_letter(left[0]) and is_letter(right[0])


def moves(pair):
    """Return the moves of a settled pair that is live or the end, a tuple in order."""
    if pair == END:
        return ()
    one, other = pair[0][0], pair[1][0]
    if not is_piece(one):
        return told_by(other, one)
    if not is_piece(other):
        return told_by(one, other)
    return told_by(one, other) + (("starts", other, one),)


def told_by(z, w):
    """Return the two moves that say of the piece z that it is w or starts with w."""
    return ("is", z, w), ("starts", z, w)


def substitution(move):
    """Return the name of the piece that the move replaces, and the content, a row."""
    word, z, w = move
    name = name_of(z)
    rest = () if word == "is" else (name,)
    if is_turned(z):
        return name, (*rest, turned_symbol(w))
    return name, (w, *rest)


def after(pair, move):
    """Return the result of a move of a live pair, in the form that settle returns."""
    left, right = pair
    name, content = substitution(move)
    return settle((replaced(left, name, content), replaced(right, name, content)))


def start(book, empties):
    """Return the start of the book for a lot of its pieces, in the form that settle returns."""
    left, right = book.joined()
    return settle((without(left, empties), without(right, empties)))


def lots_of(names):
    """Return all lots of the names, a tuple that begins with the empty lot."""
    lots = [()]
    for name in names:
        lots = lots + [(*lot, name) for lot in lots]
    return tuple(lots)
