"""Rules that hold of a book, and fillings that break them (points 85 to 87)."""

from twiceeach.errors import BadLetters, BadNames
from twiceeach.listing import fillings_of_forms, forms_up_to
from twiceeach.machines import check_machines
from twiceeach.pairs import lots_of
from twiceeach.rules import check_rule, effects_keep, filling_keeps
from twiceeach.symbols import joined_names
from twiceeach.tables import Table
from twiceeach.walks import check_most


def first_broken(table, machines, rule):
    """Return the first vector of the table whose fillings do not keep the rule, or None if there is none."""
    for vector in table.vectors:
        if not effects_keep(table.book, machines, rule, vector):
            return vector
    return None


def holds(book, machines, rule):
    """Return True if all fillings that fill the book keep the rule."""
    check_rule(book, machines, rule)
    return first_broken(Table(book, machines), machines, rule) is None


def breaker(book, machines, rule):
    """Return a filling that fills the book and does not keep the rule, or None if the rule holds."""
    check_rule(book, machines, rule)
    table = Table(book, machines)
    vector = first_broken(table, machines, rule)
    return None if vector is None else table.filling_with(vector)


def least_breaker(book, machines, rule, *, most):
    """Return the first filling with a total of at most `most` that does not keep the rule, or None."""
    check_most(most)
    check_rule(book, machines, rule)
    forms = forms_up_to(book, most, lots_of(book.pieces))
    for size in range(most + 1):
        for filling in fillings_of_forms(book.letters, forms, size):
            if not filling_keeps(machines, rule, filling):
                return filling
    return None


def alike_rules(book, machines, first, second):
    """Return True if each filling that fills the book keeps both rules or none."""
    check_rule(book, machines, first)
    check_rule(book, machines, second)
    vectors = Table(book, machines).vectors
    return all([effects_keep(book, machines, first, vector) == effects_keep(book, machines, second, vector)
                for vector in vectors])


def check_alike_pieces(first, second):
    """Raise BadLetters unless the books have one alphabet, and BadNames for the first name of only one of them."""
    if first.letters != second.letters:
        raise BadLetters(second.letters)
    for name in joined_names(first.pieces, second.pieces):
        if name not in first.pieces or name not in second.pieces:
            raise BadNames(name)


def first_telling(first, second, machines):
    """Return the number of the first machine that tells the two books apart, or None if there is none."""
    check_alike_pieces(first, second)
    check_machines(first.letters, machines)
    for number, machine in enumerate(machines):
        if Table(first, [machine]).vectors != Table(second, [machine]).vectors:
            return number
    return None
