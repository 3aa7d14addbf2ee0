"""Machines for some plain questions (points 76 to 78)."""

from twiceeach.books import check_letters, is_letter_of
from twiceeach.errors import BadMachine, BadSymbol
from twiceeach.machines import Machine

MOST_PATTERN = 3


def check_letter(letters, letter):
    """Raise BadLetters unless the string is an alphabet, and BadSymbol unless it has the letter."""
    check_letters(letters)
    if not is_letter_of(letters, letter):
        raise BadSymbol(letter)


def counter(letters, letter, rests, rest):
    """Return the machine that takes the texts in which the number of the letter leaves the rest."""
    check_letter(letters, letter)
    if not 1 <= rests <= Machine.MOST_STATES or not 0 <= rest < rests:
        raise BadMachine()
    table = [[(state + 1) % rests if one == letter else state for one in letters] for state in range(rests)]
    return Machine(letters, table, [rest])


def beginner(letters, letter):
    """Return the machine that takes the texts that begin with the letter."""
    check_letter(letters, letter)
    first = [1 if one == letter else 2 for one in letters]
    return Machine(letters, [first, [1] * len(letters), [2] * len(letters)], [1])


def ender(letters, letter):
    """Return the machine that takes the texts that end with the letter."""
    check_letter(letters, letter)
    row = [1 if one == letter else 0 for one in letters]
    return Machine(letters, [row, row], [1])


def held_after(pattern, state, letter):
    """Return the state of a holder to which the letter leads from a state."""
    if state == len(pattern):
        return state
    text = pattern[:state] + letter
    return max([length for length in range(len(pattern) + 1) if text.endswith(pattern[:length])])


def holder(letters, pattern):
    """Return the machine that takes the texts that contain the pattern."""
    check_letters(letters)
    if not 1 <= len(pattern) <= MOST_PATTERN:
        raise BadMachine()
    for sign in pattern:
        if sign not in letters:
            raise BadSymbol(sign)
    held = len(pattern)
    table = [[held_after(pattern, state, letter) for letter in letters] for state in range(held + 1)]
    return Machine(letters, table, [held])


def opposite(machine):
    """Return the machine that takes exactly the texts that the machine does not take."""
    good = [state for state in range(len(machine.table)) if state not in machine.good]
    return Machine(machine.letters, machine.table, good)
