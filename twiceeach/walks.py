"""The walks up to a weight, and the walk of a filling (points 48 to 51)."""

from twiceeach.errors import NoFilling, TooLarge
from twiceeach.fillings import fills
from twiceeach.forms import Form, first_rows, next_rows
from twiceeach.pairs import END, after, lots_of, start
from twiceeach.symbols import is_piece, is_turned, name_of
from twiceeach.web import live_steps

MOST = 12


def check_most(most):
    """Raise TooLarge if the bound of weights or totals is too large."""
    if most > MOST:
        raise TooLarge("most", MOST)


def weight_of(rows):
    """Return the number of symbols in all rows of a dict."""
    return sum([len(row) for row in rows.values()])


def walks_with_forms(book, lot, most):
    """Return the walks with the lot whose weight is at most `most`, in order, each in a tuple with its form."""
    begun = start(book, lot)
    if begun is None:
        return []
    known_steps = {}
    found = []
    waiting = [((), begun[0], begun[1], first_rows(book, lot))]
    while waiting:
        taken, freed, pair, rows = waiting.pop()
        if weight_of(rows) > most:
            continue
        if pair == END:
            found.append(((lot, taken), Form(rows, dict(freed))))
            continue
        if pair not in known_steps:
            known_steps[pair] = live_steps(pair)
        # What is put behind all others is taken first, so the first move goes last.
        for move, more, behind in known_steps[pair][::-1]:
            waiting.append(((*taken, move), freed + more, behind, next_rows(rows, move)))
    return found


def walks(book, *, most, lots=None):
    """Yield the walks of the book whose weight is at most `most`, lot by lot."""
    check_most(most)
    chosen = lots_of(book.pieces) if lots is None else lots
    for lot in chosen:
        for walk, _ in walks_with_forms(book, lot, most):
            yield walk


def length_of(symbol, rest):
    """Return the length of a letter, or of what is left of the text of a piece."""
    return len(rest[name_of(symbol)]) if is_piece(symbol) else 1


def told_move(pair, rest):
    """Return the move of the live pair that is told by what is left of the texts."""
    one, other = pair[0][0], pair[1][0]
    if not is_piece(one):
        one, other = other, one
    longer = length_of(one, rest) - length_of(other, rest)
    if longer == 0:
        return "is", one, other
    return ("starts", one, other) if longer > 0 else ("starts", other, one)


def shortened_rest(rest, move):
    """Return what is left of the texts after the move, a new dict."""
    word, z, w = move
    name = name_of(z)
    if word == "is":
        return rest
    cut = length_of(w, rest)
    left = rest[name][:-cut] if is_turned(z) else rest[name][cut:]
    return {**rest, name: left}


def walk_of(book, filling):
    """Return the walk to which a filling that fills the book belongs, and its free texts."""
    if not fills(book, filling):
        raise NoFilling()
    rest = dict(filling)
    lot = tuple(name for name in book.pieces if filling[name] == "")
    freed, pair = start(book, lot)
    taken = []
    while pair != END:
        move = told_move(pair, rest)
        rest = shortened_rest(rest, move)
        taken.append(move)
        more, pair = after(pair, move)
        freed = freed + more
    return (lot, tuple(taken)), {name: rest[name] for name, _ in sorted(freed)}
