"""Rules of fillings, and vectors of effects (points 79 to 81)."""

from twiceeach.books import is_letter_of
from twiceeach.effects import effect
from twiceeach.errors import BadRule
from twiceeach.fillings import check_filling, put_in
from twiceeach.machines import check_machines
from twiceeach.symbols import is_piece, is_turned, name_of

MOST_NODES = 31
MOST_SYMBOLS = 8


def is_symbol_of(book, symbol):
    """Return True if the value is a letter of the alphabet or a piece of the book."""
    if not isinstance(symbol, str):
        return False
    return is_letter_of(book.letters, symbol) or (is_piece(symbol) and name_of(symbol) in book.pieces)


def is_taking(book, machines, rule):
    """Return True if a tuple of three parts that begins with "takes" is a rule."""
    _, number, row = rule
    if not isinstance(number, int) or not 0 <= number < len(machines):
        return False
    if not isinstance(row, tuple) or len(row) > MOST_SYMBOLS:
        return False
    return all([is_symbol_of(book, symbol) for symbol in row])


def inner_rules(book, machines, rule):
    """Return the values that have to be rules for the value to be one, a tuple, or None if it is none anyway."""
    if not isinstance(rule, tuple):
        return None
    if len(rule) == 3 and rule[0] == "takes":
        return () if is_taking(book, machines, rule) else None
    if (len(rule) == 2 and rule[0] == "not") or (len(rule) == 3 and rule[0] in ("both", "either")):
        return rule[1:]
    return None


def check_rule(book, machines, rule):
    """Raise BadMachine unless the machines fit the book, and BadRule unless the value is a rule."""
    check_machines(book.letters, machines)
    waiting = [rule]
    many = 0
    while waiting:
        inner = inner_rules(book, machines, waiting.pop())
        many += 1
        if inner is None or many > MOST_NODES:
            raise BadRule()
        waiting.extend(inner)


def is_kept(rule, taken):
    """Return True if a rule is kept, where `taken` tells of a number and a row if the machine takes its text."""
    word = rule[0]
    if word == "takes":
        return taken(rule[1], rule[2])
    if word == "not":
        return not is_kept(rule[1], taken)
    if word == "both":
        return is_kept(rule[1], taken) and is_kept(rule[2], taken)
    return is_kept(rule[1], taken) or is_kept(rule[2], taken)


def filling_keeps(machines, rule, filling):
    """Return True if the filling keeps the rule; nothing is checked."""
    return is_kept(rule, lambda number, row: put_in(row, filling) in machines[number])


def keeps(book, machines, rule, filling):
    """Return True if the filling keeps the rule."""
    check_rule(book, machines, rule)
    check_filling(book, filling)
    return filling_keeps(machines, rule, filling)


def vector_of(book, machines, filling):
    """Return the effects of the texts of the filling, a tuple in ascending order of the names."""
    check_machines(book.letters, machines)
    check_filling(book, filling)
    return tuple(effect(machines, filling[name]) for name in book.pieces)


def reached(machine, number, row, effects):
    """Return the state of the machine of the number to which the row leads from state 0."""
    state = 0
    for symbol in row:
        if is_letter_of(machine.letters, symbol):
            state = machine.run(symbol, begin=state)
        else:
            ahead, back = effects[name_of(symbol)][number]
            state = back[state] if is_turned(symbol) else ahead[state]
    return state


def effects_keep(book, machines, rule, vector):
    """Return True if the fillings with the vector keep the rule; nothing is checked."""
    effects = dict(zip(book.pieces, vector))
    return is_kept(rule, lambda number, row: reached(machines[number], number, row, effects) in machines[number].good)


def vector_keeps(book, machines, rule, vector):
    """Return True if the fillings with the vector keep the rule."""
    check_rule(book, machines, rule)
    return effects_keep(book, machines, rule, vector)
