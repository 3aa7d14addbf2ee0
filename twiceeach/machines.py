"""Machines that take texts (points 67 to 70)."""

from twiceeach.books import check_letters
from twiceeach.errors import BadMachine, TooLarge

MOST_MACHINES = 3


def are_states(numbers, many):
    """Return True if each number is that of one of so many states."""
    return all([0 <= number < many for number in numbers])


class Machine:
    """States, which letters lead to each other, and some of which are good."""

    MOST_STATES = 4

    def __init__(self, letters, table, good):
        check_letters(letters)
        rows = tuple(tuple(row) for row in table)
        if not 1 <= len(rows) <= Machine.MOST_STATES:
            raise BadMachine()
        if not all([len(row) == len(letters) and are_states(row, len(rows)) for row in rows]):
            raise BadMachine()
        if not are_states(good, len(rows)):
            raise BadMachine()
        self.letters = letters
        self.table = rows
        self.good = tuple(sorted(set(good)))

    def __contains__(self, text):
        return self.run(text) in self.good

    def __mul__(self, other):
        if self.letters != other.letters:
            raise BadMachine()
        many = len(other.table)
        if len(self.table) * many > Machine.MOST_STATES:
            raise TooLarge("states", Machine.MOST_STATES)
        table = [[p * many + q for p, q in zip(row, others)] for row in self.table for others in other.table]
        return Machine(self.letters, table, [p * many + q for p in self.good for q in other.good])

    @classmethod
    def taking_all(cls, letters):
        """Return the machine with one state, which is good."""
        return cls(letters, [[0] * len(letters)], [0])

    def run(self, text, *, begin=0):
        """Return the state to which the text leads from a state."""
        state = begin
        for letter in text:
            state = self.table[state][self.letters.index(letter)]
        return state


def check_machines(letters, machines):
    """Raise BadMachine unless there are 1 to 3 machines over the alphabet."""
    if not 1 <= len(machines) <= MOST_MACHINES:
        raise BadMachine()
    if not all([machine.letters == letters for machine in machines]):
        raise BadMachine()
