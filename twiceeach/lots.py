"""Classes of numbers that are glued to each other (point 20)."""


class Lots:
    """The classes of the numbers from 0 on, below a given number."""

    def __init__(self, many):
        self._label = list(range(many))
        self._inside = [[at] for at in range(many)]
        self._least = list(range(many))

    def glue(self, one, other):
        """Glue two numbers: their classes become one."""
        kept, gone = self._label[one], self._label[other]
        if kept == gone:
            return
        # The smaller class gets the other label, so that no number changes its label often.
        if len(self._inside[kept]) < len(self._inside[gone]):
            kept, gone = gone, kept
        for at in self._inside[gone]:
            self._label[at] = kept
        self._inside[kept].extend(list(self._inside[gone]))
        self._least[kept] = min(self._least[kept], self._least[gone])

    def root(self, at):
        """Return the least number of the class of a number."""
        return self._least[self._label[at]]

    def together(self, one, other):
        """Return True if two numbers are in one class."""
        return self._label[one] == self._label[other]

    def classes(self):
        """Return all classes, ascending tuples in ascending order of their roots."""
        found = {}
        for at, label in enumerate(self._label):
            found.setdefault(label, []).append(at)
        return tuple(tuple(lot) for lot in found.values())
