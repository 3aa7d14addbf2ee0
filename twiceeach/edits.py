"""The edits of desks (points 142 and 143)."""

from twiceeach.errors import BadEdit, BadLengths, NoSuchPiece
from twiceeach.gluing import MOST_LENGTH
from twiceeach.keeping import kept_walk, renamed_walk
from twiceeach.merging import extended, shortened
from twiceeach.names import renamed
from twiceeach.states import DeskState
from twiceeach.symbols import name_of
from twiceeach.texts import format_row

FORMS = (("add", 3), ("drop", 2), ("tell", 3), ("forget", 2), ("rename", 2))


def changed(state, book):
    """Return the state with another book, for which the walk is kept, without the lengths of pieces that it lacks."""
    lengths = {name: length for name, length in state.lengths.items() if name in book.pieces}
    return DeskState(book, lengths, kept_walk(book, state.walk))


def added(state, left, right):
    """Return the state with the equation of two rows."""
    return changed(state, extended(state.book, left, right))


def dropped(state, number):
    """Return the state without the equation of the number."""
    return changed(state, shortened(state.book, number))


def told(state, name, length):
    """Return the state in which the length of the piece is told."""
    if name not in state.book.pieces:
        raise NoSuchPiece(name)
    if not 0 <= length <= MOST_LENGTH:
        raise BadLengths(name)
    return DeskState(state.book, {**state.lengths, name: length}, state.walk)


def forgotten(state, name):
    """Return the state in which the length of the name is not told."""
    if name not in state.lengths:
        raise NoSuchPiece(name)
    lengths = {one: length for one, length in state.lengths.items() if one != name}
    return DeskState(state.book, lengths, state.walk)


def renamed_state(state, table):
    """Return the state with the names that the table tells."""
    book = renamed(state.book, table)
    lengths = {name_of(table[name]): length for name, length in state.lengths.items()}
    return DeskState(book, lengths, None if state.walk is None else renamed_walk(state.walk, table))


DEEDS = {"add": added, "drop": dropped, "tell": told, "forget": forgotten, "rename": renamed_state}


def edited(state, edit):
    """Return the state behind an edit."""
    if len(edit) == 0 or (edit[0], len(edit)) not in FORMS:
        raise BadEdit()
    word, *parts = edit
    deed = DEEDS[word]
    return deed(state, *parts)


def edit_line(edit):
    """Return the line of an edit in a journal."""
    word, *parts = edit
    if word == "add":
        left, right = parts
        return f"add {format_row(left)} = {format_row(right)}"
    if word == "rename":
        table = parts[0]
        parts = [one for name in sorted(table) for one in (name, table[name])]
    return " ".join([word, *[str(part) for part in parts]])
