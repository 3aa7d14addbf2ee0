"""Desks: a book that is edited, with told lengths and a kept walk (points 141 to 145)."""

from twiceeach.books import Book
from twiceeach.desktexts import format_desk, parse_desk
from twiceeach.edits import edit_line, edited
from twiceeach.errors import NothingToRedo, NothingToUndo
from twiceeach.keeping import first_walk
from twiceeach.states import DeskState
from twiceeach.telling import told_fillings, told_let_lengths, told_number
from twiceeach.useful import web_verdict
from twiceeach.web import Web


class Desk:
    """A book that is edited, with told lengths and a kept walk."""

    def __init__(self, letters):
        self._now = DeskState(Book(letters), {}, ((), ()))
        self._before = []
        self._undone = []
        self._lines = []

    @classmethod
    def load(cls, text):
        """Return the desk that a string writes."""
        book, lengths = parse_desk(text)
        desk = cls(book.letters)
        desk._now = DeskState(book, lengths, first_walk(book))
        return desk

    @property
    def journal(self):
        """The lines of what was done, a tuple."""
        return tuple(self._lines)

    def edit(self, *edits):
        """Do the edits in order, all of them or, if one raises an error, none."""
        made = self._now
        for one in edits:
            made = edited(made, one)
        self._before.append(self._now)
        self._undone = []
        self._now = made
        self._lines.extend([edit_line(one) for one in edits])

    def undo(self):
        """Bring back the state before the last call of edit that is not undone."""
        if not self._before:
            raise NothingToUndo()
        self._undone.append(self._now)
        self._now = self._before.pop()
        self._lines.append("undo")

    def redo(self):
        """Bring back the state after the last undone call of edit."""
        if not self._undone:
            raise NothingToRedo()
        self._before.append(self._now)
        self._now = self._undone.pop()
        self._lines.append("redo")

    def state(self):
        """Return the state, a new one at each call."""
        return DeskState(self._now.book, self._now.lengths, self._now.walk)

    def verdict(self):
        """Return the verdict on the book."""
        return web_verdict(Web(self._now.book))

    def number(self):
        """Return the number of fillings with the told lengths that fill the book, or None if not all are told."""
        return told_number(self._now.book, self._now.lengths)

    def fillings(self, *, most):
        """Return the fillings with totals up to `most` that have the told lengths, a list in order."""
        return told_fillings(self._now.book, self._now.lengths, most)

    def let_lengths(self, *, most):
        """Return the lengths with sums up to `most` that are let and have the told lengths, a list in order."""
        return told_let_lengths(self._now.book, self._now.lengths, most)

    def save(self):
        """Return the written form of the desk."""
        return format_desk(self._now.book, self._now.lengths)
