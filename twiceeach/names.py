"""Other names for the pieces (points 26 and 27)."""

from twiceeach.books import Book
from twiceeach.errors import BadNames
from twiceeach.symbols import is_piece, is_turned, joined_names, name_of, turned_symbol

ROLES = "ABCDEF"


def check_table(due, table):
    """Raise BadNames for the first name at which the dict is not a table for the due names."""
    used = {}
    for name in joined_names(due, table):
        if name not in due or name not in table or not is_piece(table[name]):
            raise BadNames(name)
        if name_of(table[name]) in used:
            raise BadNames(name)
        used[name_of(table[name])] = True


def renamed_symbol(symbol, table):
    """Return what the symbol becomes under the table; letters stay."""
    if not is_piece(symbol):
        return symbol
    worth = table[name_of(symbol)]
    return turned_symbol(worth) if is_turned(symbol) else worth


def renamed_row(row, table):
    """Return the row with all its symbols replaced as the table tells, a tuple."""
    return tuple(renamed_symbol(symbol, table) for symbol in row)


def renamed(book, table):
    """Return the renamed book."""
    check_table(book.pieces, table)
    return Book(book.letters, [(renamed_row(left, table), renamed_row(right, table)) for left, right in book.equations])


def renamed_filling(filling, table):
    """Return the renamed filling, its keys in ascending order."""
    check_table(tuple(filling), table)
    made = {}
    for name, worth in table.items():
        made[name_of(worth)] = filling[name][::-1] if is_turned(worth) else filling[name]
    return {name: made[name] for name in sorted(made)}


def canonical(book):
    """Return the canonical form of the book and its table, the keys in ascending order."""
    found = {}
    for left, right in book.equations:
        for symbol in left + right:
            if is_piece(symbol) and name_of(symbol) not in found:
                role = ROLES[len(found)]
                found[name_of(symbol)] = turned_symbol(role) if is_turned(symbol) else role
    table = {name: found[name] for name in sorted(found)}
    return renamed(book, table), table


def alike_books(first, second):
    """Return True if the two books have the same canonical form."""
    one, _ = canonical(first)
    other, _ = canonical(second)
    return one == other
