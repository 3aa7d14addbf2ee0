"""The walks up to a weight, and the walks of fillings and of told lengths (points 48 to 51 and 63)."""

from twiceeach.errors import NoFilling, TooLarge
from twiceeach.fillings import fills
from twiceeach.forms import Form, first_rows, next_rows
from twiceeach.pairs import END, after, lots_of, start
from twiceeach.symbols import is_piece, is_turned, name_of
from twiceeach.web import live_steps

MOST = 12


def check_most(most):
    """Raise TooLarge if the bound of weights or totals is too large."""
    if most > MOST:
        raise TooLarge("most", MOST)


def weight_of(rows):
    """Return the number of symbols in all rows of a dict."""
    return sum([len(row) for row in rows.values()])


def walks_with_forms(book, lot, most):
    """Return the walks with the lot whose weight is at most `most`, in order, each in a tuple with its form."""
    begun = start(book, lot)
    if begun is None:
        return []
    known_steps = {}
    found = []
    waiting = [((), begun[0], begun[1], first_rows(book, lot))]
    while waiting:
        taken, freed, pair, rows = waiting.pop()
        if weight_of(rows) > most:
            continue
        if pair == END:
            found.append(((lot, taken), Form(rows, dict(freed))))
            continue
        if pair not in known_steps:
            known_steps[pair] = live_steps(pair)
        # What is put behind all others is taken first, so the first move goes last.
        for move, more, behind in known_steps[pair][::-1]:
            waiting.append(((*taken, move), freed + more, behind, next_rows(rows, move)))
    return found


def walks(book, *, most, lots=None):
    """Yield the walks of the book whose weight is at most `most`, lot by lot."""
    check_most(most)
    chosen = lots_of(book.pieces) if lots is None else lots
    for lot in chosen:
        for walk, _ in walks_with_forms(book, lot, most):
            yield walk


def length_of(symbol, left):
    """Return the length of a letter, or the length that is left of a piece."""
    return left[name_of(symbol)] if is_piece(symbol) else 1


def told_move(pair, left):
    """Return the move of the live pair that is told by the lengths that are left of the pieces."""
    one, other = pair[0][0], pair[1][0]
    if not is_piece(one):
        one, other = other, one
    longer = length_of(one, left) - length_of(other, left)
    if longer == 0:
        return "is", one, other
    return ("starts", one, other) if longer > 0 else ("starts", other, one)


def told_walk(book, lengths):
    """Return the walk that fitting lengths tell, the pieces that are freed on it, and the lengths that are left.

    It is None if the start or a result is dead.
    """
    lot = tuple(name for name in book.pieces if lengths[name] == 0)
    left = {name: lengths[name] for name in book.pieces}
    result = start(book, lot)
    taken, freed = [], []
    while result is not None:
        more, pair = result
        freed.extend(more)
        if pair == END:
            return (lot, tuple(taken)), sorted(freed), left
        move = told_move(pair, left)
        word, z, w = move
        if word == "starts":
            left[name_of(z)] -= length_of(w, left)
        taken.append(move)
        result = after(pair, move)
    return None


def shortened_texts(filling, taken):
    """Return what is left of the texts of a filling behind the moves of its walk, a dict."""
    texts = dict(filling)
    for word, z, w in taken:
        if word == "starts":
            name = name_of(z)
            cut = len(texts[name_of(w)]) if is_piece(w) else 1
            texts[name] = texts[name][:-cut] if is_turned(z) else texts[name][cut:]
    return texts


def walk_of(book, filling):
    """Return the walk to which a filling that fills the book belongs, and its free texts."""
    if not fills(book, filling):
        raise NoFilling()
    walk, freed, _ = told_walk(book, {name: len(text) for name, text in filling.items()})
    texts = shortened_texts(filling, walk[1])
    return walk, {name: texts[name] for name, _ in freed}
