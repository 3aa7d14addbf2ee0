"""The lengths of the sides, and the lengths that some filling has (points 61 and 62)."""

from twiceeach.gluing import Gluing, check_lengths
from twiceeach.symbols import is_letter, names_in, standings
from twiceeach.walks import check_most


def letter_count(row):
    """Return the number of letters in the row."""
    return len([symbol for symbol in row if is_letter(symbol)])


def balance(left, right):
    """Return by how many letters, and by how many standings of each piece, the left row has more."""
    pieces = {name: standings(name, left) - standings(name, right) for name in names_in(left, right)}
    return letter_count(left) - letter_count(right), pieces


def has_equal_sides(equation, lengths):
    """Return True if the two sides of an equation get texts of one length."""
    letters, pieces = balance(*equation)
    return letters + sum([many * lengths[name] for name, many in pieces.items()]) == 0


def is_even(book, lengths):
    """Return False if the lengths are uneven, otherwise True."""
    check_lengths(book, lengths)
    return all([has_equal_sides(equation, lengths) for equation in book.equations])


def lengths_with_sum(names, size):
    """Return all lengths of the pieces with the sum, a list of dicts in the order of point 62."""
    choices = [({}, size)]
    for at, name in enumerate(names):
        # What is left goes to the last piece.
        choices = [({**lengths, name: length}, left - length) for lengths, left in choices
                   for length in range(0 if at + 1 < len(names) else left, left + 1)]
    return [lengths for lengths, left in choices if left == 0]


def let_lengths(book, *, most):
    """Return all lengths that are let and whose sum is at most `most`, a list of dicts in order."""
    check_most(most)
    found = []
    for size in range(most + 1):
        for lengths in lengths_with_sum(book.pieces, size):
            if is_even(book, lengths) and Gluing(book, lengths).many > 0:
                found.append(lengths)
    return found
