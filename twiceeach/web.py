"""The web of a book: the pairs that its starts lead to (points 31 to 33)."""

from twiceeach.pairs import END, after, lots_of, moves, start


def live_steps(pair):
    """Return the steps of a settled pair that is live or the end, a tuple in the order of the moves."""
    steps = []
    for move in moves(pair):
        result = after(pair, move)
        if result is not None:
            freed, behind = result
            steps.append((move, freed, behind))
    return tuple(steps)


def live_starts(book, lots):
    """Return the lot, the freed pieces and the pair of each start that is not dead, a tuple."""
    starts = []
    for lot in lots:
        begun = start(book, lot)
        if begun is not None:
            freed, pair = begun
            starts.append((lot, freed, pair))
    return tuple(starts)


def explored(first):
    """Return the steps of all pairs that the first pairs lead to, a dict in the order in which they are found."""
    found = {pair: () for pair in first}
    waiting = list(found)
    at = 0
    while at < len(waiting):
        steps = live_steps(waiting[at])
        found[waiting[at]] = steps
        for _, _, behind in steps:
            if behind not in found:
                found[behind] = ()
                waiting.append(behind)
        at += 1
    return found


class Web:
    """The pairs that are not dead to which the starts for some lots lead."""

    def __init__(self, book, *, lots=None):
        self.book = book
        self.lots = lots_of(book.pieces) if lots is None else tuple(lots)
        self.starts = live_starts(book, self.lots)
        self._steps = explored([pair for _, _, pair in self.starts])
        self.pairs = tuple(self._steps)

    def __contains__(self, pair):
        return pair in self._steps

    def __len__(self):
        return len(self.pairs)

    def __iter__(self):
        return iter(self.pairs)

    @property
    def solvable(self):
        """True if the end is one of the pairs."""
        return END in self._steps

    def steps(self, pair):
        """Return the steps of a pair of the web, a tuple of tuples (move, freed pieces, next pair)."""
        return self._steps[pair]
