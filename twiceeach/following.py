"""Following moves, as far as they can be taken (points 19 and 45)."""

from twiceeach.pairs import END, after, lots_of, moves, start


def follow(pair, taken):
    """Return the results of the moves, which are taken from the pair on, a list.

    It ends ahead of the first move that is none of its pair, or whose result is dead.
    """
    results = []
    for move in taken:
        result = after(pair, move) if move in moves(pair) else None
        if result is None:
            return results
        results.append(result)
        _, pair = result
    return results


def stations(book, walk):
    """Return the start of a lot and the results of its moves, as far as they can be taken, a list.

    It is empty if the lot is none of the book or its start is dead.
    """
    lot, taken = walk
    begun = start(book, lot) if lot in lots_of(book.pieces) else None
    if begun is None:
        return []
    _, pair = begun
    return [begun, *follow(pair, taken)]


def is_whole(results, taken):
    """Return True if all the moves could be taken and lead to the end."""
    if len(results) <= len(taken):
        return False
    _, pair = results[-1]
    return pair == END


def freed_in(results):
    """Return all pieces that are freed at the start or by a move, a list of tuples (name, kind)."""
    return [piece for freed, _ in results for piece in freed]
