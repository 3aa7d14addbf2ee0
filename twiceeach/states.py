"""The states of desks (point 141)."""


class DeskState:
    """A book, told lengths for some of its pieces, and a kept walk."""

    def __init__(self, book, lengths, walk):
        self.book = book
        self.lengths = {name: lengths[name] for name in sorted(lengths)}
        self.walk = walk
