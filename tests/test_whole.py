"""Points 1 and 2 over the whole program: arguments stay, answers are new ones, and no refused call changes anything."""

import copy
import unittest

from tests.samples import book
from twiceeach import (breakers, closing, commutators, cuts, cutting, effects, exchanges, fewest, fillings, forms, gluing, keeping,
                       leading, letting, listing, lots, machines, makers, merging, mirrors, names, ownmirrors, papers, pathway,
                       periods, placemaps, polygons, ringrules, rings, rulepapers, rules, solutions, states, sure, tables, texts,
                       turnings, useful, walks, web)
from twiceeach.books import Book
from twiceeach.desk import Desk
from twiceeach.errors import TwiceError
from twiceeach.opposites import Word

COMMUTE, FINITE, NONE = book("ab", "X a = a X"), book("ab", "X Y = a b a"), book("ab", "X a = b X")
MACHINES = [makers.counter("ab", "a", 2, 0)]
RULE = ("takes", 0, ("X",))


def desk_with(*edits):
    """A desk with a book, on which the edits are done."""
    desk = Desk("ab")
    desk.edit(("add", ["X", "Y"], ["Y", "X"]), ("tell", "X", 1))
    desk.edit(*edits)
    return desk


CALLS = [
    (fillings.check_filling, COMMUTE, {"X": "a"}), (fillings.fills, COMMUTE, {"X": "a"}), (fillings.total, {"X": "a"}),
    (fillings.mirrored, {"Y": "ab", "X": "a"}), (fillings.filling_key, {"Y": "ab", "X": "a"}), (fillings.texts_of, "ab", 2),
    (fillings.mirror_texts_of, "ab", 3), (fillings.put_in, ("X~", "a"), {"X": "ab"}),
    (lambda many: lots.Lots(many).classes(), 3),
    (texts.format_filling, {"Y": "ab", "X": ""}), (texts.parse_filling, "X = a\nY = -"), (texts.parse_walk, "empty X\nis Y a"),
    (names.renamed, FINITE, {"X": "Y~", "Y": "X"}), (names.renamed_filling, {"X": "ab", "Y": ""}, {"X": "Y~", "Y": "X"}),
    (names.canonical, FINITE), (merging.extended, COMMUTE, ["Y"], ["a"]), (merging.components, FINITE),
    (useful.find_ring, web.Web(COMMUTE)), (useful.useful_steps, web.Web(COMMUTE)), (papers.closed_paper, NONE), (papers.endless_paper, COMMUTE),
    (lambda rows, free: forms.Form(rows, free).fill({"Y": "ab"}), {"X": ["Y", "Y"], "Y": ["Y"]}, {"Y": "any"}),
    (lambda texts: forms.Form({"X": ("Y", "Y")}, {"Y": "any"}).fill(texts), {"Y": "ab"}),
    (lambda: list(walks.walks(COMMUTE, most=3)),), (walks.walk_of, COMMUTE, {"X": "aa"}),
    (lambda: listing.fillings(COMMUTE, most=3),), (lambda: listing.least_filling(FINITE, most=3),), (lambda: listing.totals(FINITE, most=3),),
    (listing.all_fillings, FINITE),
    (lambda lengths, told: gluing.Gluing(COMMUTE, lengths, told=told).fillings(), {"X": 2}, {("X", 0): "a"}),
    (gluing.check_lengths, COMMUTE, {"X": 2}), (sure.sure_letters, COMMUTE, {"X": 2}), (letting.balance, ("X", "a"), ("Y",)),
    (letting.is_even, COMMUTE, {"X": 2}), (lambda: letting.let_lengths(FINITE, most=3),), (pathway.lengths_walk, COMMUTE, {"X": 2}),
    (pathway.rest_places, {"X": ("any", 2)}), (cutting.cut_piece, COMMUTE, "X"), (cutting.cut_filling, {"X": "ab", "Z": "b"}, "X", "N0", "N1", 1),
    (cutting.mended_filling, {"N0": "a", "N1": "b"}, "X", "N0", "N1"),
    (lambda table, good: machines.Machine("ab", table, good).table, [[0, 1], [1, 0]], [1, 0]), (machines.check_machines, "ab", MACHINES),
    (effects.row_effect, MACHINES, ("X", "a"), {"X": effects.effect(MACHINES, "ab")}), (lambda made: closing.Closing(made).effects, MACHINES),
    (rules.keeps, COMMUTE, MACHINES, RULE, {"X": "a"}), (rules.vector_of, COMMUTE, MACHINES, {"X": "a"}),
    (lambda made: tables.Table(COMMUTE, made).filling_with(tables.Table(COMMUTE, made).vectors[0]), MACHINES),
    (breakers.breaker, COMMUTE, MACHINES, RULE), (lambda made: breakers.least_breaker(COMMUTE, made, RULE, most=3), MACHINES),
    (rulepapers.rule_paper, COMMUTE, MACHINES, ("either", RULE, ("not", RULE))), (mirrors.straightened_book, FINITE),
    (ownmirrors.mirror_count, COMMUTE, {"X": 2}, ("X",)), (turnings.turnings, "ab", "ba"), (cuts.cut_book, "ab", ("X",), ("a",), ("between", 0)),
    (lambda: rings.ring_fillings("ab", ("X",), ("a", "b"), most=3),), (rings.ring_count, "ab", ("X",), ("a", "b"), {"X": 2}),
    (rings.ring_papers, "ab", ("X", "a"), ("b", "X")),
    (lambda blocks: exchanges.Exchange(blocks).blocks, [2, -1]), (exchanges.Exchange((2, -1)).rearranged, ["ab", "c"]),
    (exchanges.Exchange((2, -1)), ["ab", "c"]), (placemaps.place_map, exchanges.Exchange((2, -1)), [1, 2]), (placemaps.rounds, (1, 0, 2)),
    (leading.leads, exchanges.Exchange((2, 1)), "aa", "aa"), (leading.left_count, "ab", exchanges.Exchange((2, 1)), [1, 2]),
    (fewest.lean_orders, 2), (fewest.bars, "ab", "ab", "ba", 1), (periods.period_texts, "ab", 3, (2,)),
    (lambda: solutions.solutions(book("ab", "X = Y~"), most=3),), (lambda letters: Word(letters).letters, [1, 2]),
    (lambda: list(polygons.gluings(Word([1, 2, -1, -2]))),), (commutators.commutators, Word([1, 2, -1, -2])),
    (ringrules.ring_vectors, "ab", ("X",), ("a", "b"), MACHINES), (ringrules.ring_breaker, "ab", ("X",), ("a", "b"), MACHINES, RULE),
    (keeping.first_walk, FINITE), (keeping.renamed_walk, (("X",), (("is", "Y", "a"),)), {"X": "B~", "Y": "A"}),
    (lambda lengths: states.DeskState(COMMUTE, lengths, None).lengths, {"X": 2}),
    (lambda edit: desk_with(edit).save(), ("add", ["Z"], ["a"])), (lambda edit: desk_with(edit).save(), ("rename", {"X": "Y", "Y": "X~"})),
    (lambda: desk_with().state().lengths,), (lambda: desk_with().fillings(most=3),), (lambda: desk_with().let_lengths(most=3),),
]


def frozen(worth):
    """The lists and dicts of a value, also the inner ones, with the order of the keys."""
    if isinstance(worth, dict):
        return "dict", [(frozen(key), frozen(one)) for key, one in worth.items()]
    if isinstance(worth, (list, tuple)):
        return type(worth).__name__, [frozen(one) for one in worth]
    if isinstance(worth, Book):
        return worth.letters, worth.equations, worth.pieces
    return worth.letters if isinstance(worth, Word) else worth


def spoil(worth):
    """Change all lists and dicts of a value."""
    for one in list(worth.values()) if isinstance(worth, dict) else worth if isinstance(worth, (list, tuple)) else []:
        spoil(one)
    if isinstance(worth, (list, dict)):
        worth.clear()


class WholeProgram(unittest.TestCase):

    def test_no_call_changes_its_arguments_and_each_answer_is_a_new_one(self):
        for at, (function, *arguments) in enumerate(CALLS):
            with self.subTest(at):
                before = frozen(arguments)
                first = function(*arguments)
                found = frozen(first)
                self.assertEqual(frozen(arguments), before)
                spoil(first)
                self.assertEqual(frozen(function(*arguments)), found)
                self.assertEqual(frozen(arguments), before)

    def test_objects_give_new_answers(self):
        told = gluing.Gluing(COMMUTE, {"X": 2})
        table = tables.Table(COMMUTE, MACHINES)
        form = forms.Form({"X": ("Y", "Y")}, {"Y": "any"})
        exchange, desk, classes = exchanges.Exchange((2, 1)), desk_with(), lots.Lots(3)
        for at, call in enumerate([told.fillings, lambda: table.filling_with(table.vectors[0]), lambda: form.fill({"Y": "a"}),
                                   lambda: exchange.rearranged(["a", "b"]), lambda: desk.fillings(most=3), lambda: desk.let_lengths(most=3),
                                   lambda: desk.state().lengths, classes.classes, lambda: web.Web(COMMUTE).steps(web.Web(COMMUTE).pairs[0])]):
            with self.subTest(at):
                first = call()
                found = copy.deepcopy(first)
                spoil(first)
                self.assertEqual(call(), found)

    def test_objects_copy_what_they_are_given(self):
        table, good, lengths, told = [[0, 1], [1, 0]], [1], {"X": 1}, {("X", 0): "a"}
        rows, free, sides = {"X": ["Y"]}, {"Y": "any"}, [[["X"], ["a"]]]
        machine, glued = machines.Machine("ab", table, good), gluing.Gluing(COMMUTE, lengths, told=told)
        form, made, chosen = forms.Form(rows, free), Book("ab", sides), [("X",)]
        found = web.Web(COMMUTE, lots=chosen)
        for given in (table, good, lengths, told, rows, free, sides, chosen):
            spoil(given)
        self.assertEqual((machine.table, machine.good, glued.fillings()), (((0, 1), (1, 0)), (1,), [{"X": "a"}]))
        self.assertEqual((form.rows, form.free, made.equations, found.lots), ({"X": ("Y",)}, {"Y": "any"}, ((("X",), ("a",)),), (("X",),)))

    def test_refused_calls_raise_errors_of_the_program_and_change_nothing(self):
        lengths, filling, table = {"X": 99, "A": 1}, {"X": "c"}, {"X": "a"}
        for at, call in enumerate([lambda: gluing.Gluing(COMMUTE, lengths), lambda: fillings.fills(COMMUTE, filling),
                                   lambda: names.renamed(COMMUTE, table), lambda: listing.all_fillings(COMMUTE),
                                   lambda: Word([9]), lambda: exchanges.Exchange([2]), lambda: solutions.solutions(COMMUTE, most=1),
                                   lambda: periods.freest(41, ()), lambda: desk_with(("rename", table)), lambda: Desk.load("letters"),
                                   lambda: commutators.commutators(Word([1])), lambda: placemaps.rounds((1,)),
                                   lambda: rules.check_rule(COMMUTE, MACHINES, ()), lambda: closing.Closing([])]):
            with self.subTest(at):
                with self.assertRaises(TwiceError) as caught:
                    call()
                self.assertIsInstance(caught.exception, ValueError)
        self.assertEqual((lengths, filling, table), ({"X": 99, "A": 1}, {"X": "c"}, {"X": "a"}))


if __name__ == "__main__":
    unittest.main()
