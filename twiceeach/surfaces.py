"""The surfaces of pairs (points 137 and 138)."""

from twiceeach.errors import BadNames, BadSymbol
from twiceeach.lots import Lots
from twiceeach.symbols import is_piece, is_turned, name_of, names_in, standings, turned


def check_closed(pair):
    """Raise what the pair does not keep to have a closed row."""
    left, right = pair
    for symbol in left + right:
        if not is_piece(symbol):
            raise BadSymbol(symbol)
    for name in names_in(left, right):
        if standings(name, left, right) == 1:
            raise BadNames(name)


def closed_row(pair):
    """Return the left row and then the turned right row of the pair as integers, a tuple."""
    check_closed(pair)
    left, right = pair
    number = {name: at + 1 for at, name in enumerate(names_in(left, right))}
    row = left + turned(right)
    return tuple(-number[name_of(symbol)] if is_turned(symbol) else number[symbol] for symbol in row)


def surface_corners(pair):
    """Return the number of corners of the surface of the pair."""
    row = closed_row(pair)
    many = len(row)
    if many == 0:
        return 1
    lots = Lots(many)
    for one, piece in enumerate(row):
        for other in range(one + 1, many):
            behind, other_behind = one + 1, (other + 1) % many
            if row[other] == piece:
                lots.glue(one, other)
                lots.glue(behind, other_behind)
            elif row[other] == -piece:
                lots.glue(one, other_behind)
                lots.glue(behind, other)
    return len(lots.classes())
