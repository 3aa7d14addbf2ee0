"""The names, the files and the arguments that the interface tells."""

import importlib
import inspect
import unittest

FUNCTIONS = {
    "symbols": ["is_letter(symbol)", "is_name(text)", "is_piece(symbol)", "name_of(symbol)", "turned_symbol(symbol)", "turned(row)",
                "names_in(*rows)", "standings(name, *rows)", "replaced(row, name, content)", "without(row, names)",
                "fresh_names(names, many)"],
    "books": ["check_letters(letters)", "check_row(letters, row)", "check_standings(*rows)"],
    "fillings": ["put_in(row, filling)", "is_text(letters, text)", "check_filling(book, filling)", "fills(book, filling)",
                 "total(filling)", "mirrored(filling)", "filling_key(filling)", "texts_of(letters, length)",
                 "mirror_texts_of(letters, length)"],
    "pairs": ["settle(pair)", "moves(pair)", "substitution(move)", "after(pair, move)", "start(book, empties)", "lots_of(names)"],
    "texts": ["format_row(row)", "format_book(book)", "format_filling(filling)", "format_walk(walk)", "parse_row(text)",
              "parse_book(text)", "parse_filling(text)", "parse_walk(text)"],
    "names": ["renamed(book, table)", "renamed_filling(filling, table)", "canonical(book)", "alike_books(first, second)"],
    "merging": ["merged(*books)", "extended(book, left, right)", "shortened(book, number)", "components(book)"],
    "useful": ["useful_pairs(web)", "useful_steps(web)", "useful_starts(web)", "find_ring(web)", "verdict(book)", "walk_count(book)"],
    "papers": ["closed_paper(book, *, lots=None)", "judge_closed(book, paper, *, lots=None)", "judge_walk(book, walk)",
               "endless_paper(book)", "judge_endless(book, paper)"],
    "forms": ["form_of(book, walk)"],
    "walks": ["walks(book, *, most, lots=None)", "walk_of(book, filling)"],
    "listing": ["fillings(book, *, most)", "least_filling(book, *, most)", "totals(book, *, most)", "all_fillings(book)"],
    "gluing": ["check_lengths(book, lengths)"],
    "sure": ["sure_letters(book, lengths)"],
    "letting": ["balance(left, right)", "is_even(book, lengths)", "let_lengths(book, *, most)"],
    "pathway": ["lengths_walk(book, lengths)", "rest_places(rests)"],
    "cutting": ["cut_piece(book, name)", "cut_filling(filling, name, first, second, at)", "mended_filling(filling, name, first, second)"],
    "machines": ["check_machines(letters, machines)"],
    "effects": ["unit(machines)", "effect(machines, text)", "combine(first, second, /)", "turn(worth)",
                "row_effect(machines, row, effects)", "takes(machine, states)"],
    "makers": ["counter(letters, letter, rests, rest)", "beginner(letters, letter)", "ender(letters, letter)",
               "holder(letters, pattern)", "opposite(machine)"],
    "rules": ["check_rule(book, machines, rule)", "keeps(book, machines, rule, filling)", "vector_of(book, machines, filling)",
              "vector_keeps(book, machines, rule, vector)"],
    "breakers": ["holds(book, machines, rule)", "breaker(book, machines, rule)", "least_breaker(book, machines, rule, *, most)",
                 "alike_rules(book, machines, first, second)", "first_telling(first, second, machines)"],
    "rulepapers": ["rule_paper(book, machines, rule)", "judge_rule_paper(book, machines, rule, paper)"],
    "mirrors": ["turned_book(book)", "swapped_book(book)", "backward_book(book)", "toggled_book(book, name)", "straightened_book(book)"],
    "ownmirrors": ["mirror_count(book, lengths, names)", "always_mirror(book, lengths, name)"],
    "turnings": ["turnings(text, other)", "least_turning(text)"],
    "cuts": ["cuts(left, right)", "cut_book(letters, left, right, cut)", "cut_lots(made)"],
    "rings": ["alike_ring(letters, left, right)", "ring_fillings(letters, left, right, *, most)", "ring_papers(letters, left, right)",
              "judge_ring_papers(letters, left, right, papers)", "ring_count(letters, left, right, lengths)"],
    "placemaps": ["place_map(exchange, lengths)", "chained(first, second)", "back_map(source)", "rounds(source)",
                  "blocks_of(source, *, turned=False)"],
    "leading": ["leaves_book(letters, exchange)", "leads_book(letters, exchange, text, other)", "left_count(letters, exchange, lengths)",
                "leads(exchange, text, other)"],
    "fewest": ["lean_orders(many, *, turned=False)", "fewest(text, other, *, turned=False)",
               "bars(letters, text, other, many, *, turned=False)", "judge_bars(letters, text, other, many, paper, *, turned=False)"],
    "roots": ["root(text)", "exponent(text)", "commute(first, second)"],
    "periods": ["periods(text)", "freest(length, wanted)", "is_period_lot(length, wanted)", "period_texts(letters, length, wanted)"],
    "shapes": ["shape_of(book)"],
    "shapecounts": ["shape_count(letters, word, lengths)"],
    "solutions": ["solutions(book, *, most)"],
    "polygons": ["gluings(word)", "corners(many, gluing)", "handles(many, gluing)"],
    "genus": ["least_handles(word)", "best_gluing(word)"],
    "commutators": ["crossing(gluing)", "split_off(letters, gluing)", "commutators(word)"],
    "surfaces": ["closed_row(pair)", "surface_corners(pair)"],
    "ringrules": ["ring_vectors(letters, left, right, machines)", "ring_holds(letters, left, right, machines, rule)",
                  "ring_breaker(letters, left, right, machines, rule)"],
    "keeping": ["first_walk(book)", "kept_walk(book, walk)", "renamed_walk(walk, table)"],
    "deskreport": ["report(desk)"],
}
CLASSES = {
    "books": {"Book": ["__init__(self, letters, equations=())", "joined(self)"]},
    "lots": {"Lots": ["__init__(self, many)", "glue(self, one, other)", "root(self, at)", "together(self, one, other)", "classes(self)"]},
    "web": {"Web": ["__init__(self, book, *, lots=None)", "steps(self, pair)"]},
    "forms": {"Form": ["__init__(self, rows, free)", "fill(self, texts)"]},
    "gluing": {"Gluing": ["__init__(self, book, lengths, *, told=None)", "lot_at(self, place)", "letter_at(self, place)",
                          "fillings(self)"]},
    "machines": {"Machine": ["__init__(self, letters, table, good)", "run(self, text, *, begin=0)", "taking_all(cls, letters)",
                             "__contains__(self, text)", "__mul__(self, other)"]},
    "closing": {"Closing": ["__init__(self, machines)", "least(self, worth)", "least_mirror(self, worth)"]},
    "tables": {"Table": ["__init__(self, book, machines)", "vectors_at(self, pair)", "filling_with(self, vector)"]},
    "exchanges": {"Exchange": ["__init__(self, blocks)", "plain(cls, many)", "rearranged(self, texts)", "__call__(self, texts)",
                               "__invert__(self)", "__neg__(self)", "__mul__(self, other)", "is_lean(self)", "__eq__(self, other)"]},
    "opposites": {"Word": ["__init__(self, letters)", "__mul__(self, other)", "__invert__(self)", "__pow__(self, many)",
                           "commutator(self, other)", "balanced(self)", "__len__(self)", "__iter__(self)", "__eq__(self, other)"]},
    "states": {"DeskState": ["__init__(self, book, lengths, walk)"]},
    "desk": {"Desk": ["__init__(self, letters)", "load(cls, text)", "edit(self, *edits)", "undo(self)", "redo(self)", "state(self)",
                      "verdict(self)", "number(self)", "fillings(self, *, most)", "let_lengths(self, *, most)", "save(self)"]},
}
VALUES = {"Machine": {"MOST_STATES": 4}, "Closing": {"LIMIT": 60}, "Exchange": {"MOST": 12}}
CLASS_METHODS = {"Machine": ["taking_all"], "Exchange": ["plain"], "Desk": ["load"]}
PROPERTIES = {"Book": ["size"], "Web": ["solvable"], "Form": ["weight"], "Gluing": ["free_lots", "many"], "Desk": ["journal"]}


def as_written(name, function):
    """The name and the arguments, as the interface writes them."""
    return name + str(inspect.signature(function.__func__ if isinstance(function, classmethod) else function))


class Interface(unittest.TestCase):

    def test_functions(self):
        for file, written in FUNCTIONS.items():
            module = importlib.import_module("twiceeach." + file)
            for one in written:
                with self.subTest(one):
                    function = getattr(module, one.split("(")[0])
                    self.assertEqual(as_written(one.split("(")[0], function), one)
                    self.assertEqual(function.__module__, module.__name__)

    def test_classes(self):
        for file, classes in CLASSES.items():
            module = importlib.import_module("twiceeach." + file)
            for name, written in classes.items():
                made = getattr(module, name)
                self.assertEqual(made.__module__, module.__name__)
                for one in written:
                    with self.subTest((name, one)):
                        self.assertEqual(as_written(one.split("(")[0], vars(made)[one.split("(")[0]]), one)
                for one in PROPERTIES.get(name, []):
                    self.assertIsInstance(vars(made)[one], property)
                for one in CLASS_METHODS.get(name, []):
                    self.assertIsInstance(vars(made)[one], classmethod)
                for one, worth in VALUES.get(name, {}).items():
                    self.assertEqual(vars(made)[one], worth)

    def test_the_walks_and_the_gluings_are_generators(self):
        from twiceeach.polygons import gluings
        from twiceeach.walks import walks
        self.assertTrue(inspect.isgeneratorfunction(walks))
        self.assertTrue(inspect.isgeneratorfunction(gluings))


if __name__ == "__main__":
    unittest.main()
