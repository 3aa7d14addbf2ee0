"""Papers that show that a rule holds of a book (points 88 and 89)."""

from twiceeach.arithmetic import Arithmetic
from twiceeach.breakers import first_broken
from twiceeach.pairs import END, lots_of, settle
from twiceeach.recipes import start_recipe, step_recipe
from twiceeach.rules import check_rule, effects_keep, is_symbol_of
from twiceeach.symbols import MARK, names_in, standings
from twiceeach.tables import Table
from twiceeach.web import live_starts, live_steps


def rule_paper(book, machines, rule):
    """Return the pairs of the web in ascending order, each with its vectors, or None if the rule does not hold."""
    check_rule(book, machines, rule)
    table = Table(book, machines)
    if first_broken(table, machines, rule) is not None:
        return None
    return tuple((pair, table.vectors_at(pair)) for pair in sorted(table.web.pairs))


def is_paper_pair(book, pair):
    """Return True if the pair may have a row: it is settled, not dead, and made of what the book has."""
    left, right = pair
    if not all([symbol == MARK or is_symbol_of(book, symbol) for symbol in left + right]):
        return False
    if any([standings(name, left, right) > 2 for name in names_in(left, right)]):
        return False
    return settle(pair) == ((), pair)


def numbered_vectors(arithmetic, pair, vectors):
    """Return the vectors of a row as numbers, a dict, or None if one of them is no vector for the pair."""
    many = len(names_in(*pair))
    found = {}
    for vector in vectors:
        numbers = arithmetic.numbers(vector)
        if len(numbers) != many or not all([number in arithmetic.of_kind["any"] for number in numbers]):
            return None
        found[numbers] = True
    return found


def numbered_rows(book, arithmetic, paper):
    """Return the vectors of each pair of the paper as numbers, a dict of dicts, or None if a row is none."""
    rows = {}
    for pair, vectors in paper:
        if not is_paper_pair(book, pair) or pair in rows:
            return None
        found = numbered_vectors(arithmetic, pair, vectors)
        if found is None:
            return None
        rows[pair] = found
    return rows


def has_made(arithmetic, rows, pair, step):
    """Return True if the next pair of the step has a row, and the row of the pair all vectors that the step makes."""
    _, _, behind = step
    if behind not in rows:
        return False
    recipe = step_recipe(arithmetic, pair, step)
    return all([recipe.made(numbers, choice) in rows[pair] for numbers in rows[behind] for choice in recipe.choices])


def is_closed(arithmetic, rows):
    """Return True if the rows have all pairs and vectors that the end and the moves of their pairs ask for."""
    if END in rows and () not in rows[END]:
        return False
    for pair in rows:
        if not all([has_made(arithmetic, rows, pair, step) for step in live_steps(pair)]):
            return False
    return True


def started_vectors(book, arithmetic, rows):
    """Return the vectors of the book that the starts make, as numbers, a dict, or None if a start has no row."""
    found = {}
    for begun in live_starts(book, lots_of(book.pieces)):
        _, _, pair = begun
        if pair not in rows:
            return None
        recipe = start_recipe(arithmetic, book, begun)
        for numbers in rows[pair]:
            for choice in recipe.choices:
                found[recipe.made(numbers, choice)] = True
    return found


def judge_rule_paper(book, machines, rule, paper):
    """Return True if the tuple of rows is a rule paper for the book, the machines and the rule."""
    check_rule(book, machines, rule)
    arithmetic = Arithmetic(machines)
    rows = numbered_rows(book, arithmetic, paper)
    if rows is None or not is_closed(arithmetic, rows):
        return False
    made = started_vectors(book, arithmetic, rows)
    if made is None:
        return False
    return all([effects_keep(book, machines, rule, arithmetic.vector(numbers)) for numbers in made])
