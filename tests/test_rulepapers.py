"""Points 88 and 89: twiceeach.rulepapers."""

import unittest

from tests.samples import all_samples, book
from tests.test_breakers import rules_for
from tests.test_closing import many_effects, sixty_one
from tests.test_machines import even_machine
from tests.test_rules import balanced, takes
from tests.test_tables import machines_for
from twiceeach.books import Book
from twiceeach.breakers import holds
from twiceeach.closing import Closing
from twiceeach.effects import effect, unit
from twiceeach.errors import BadMachine, BadRule, TooLarge
from twiceeach.machines import Machine
from twiceeach.makers import beginner, counter, ender
from twiceeach.pairs import END
from twiceeach.rulepapers import judge_rule_paper, rule_paper
from twiceeach.tables import Table


class Papers(unittest.TestCase):

    def setUp(self):
        self.book = book("ab", "X a = a X")
        self.machines = [even_machine()]
        self.rule = takes("X X")
        self.even, self.odd = (((0, 1), (0, 1)),), (((1, 0), (1, 0)),)
        self.pair = (("X", "a"), ("a", "X"))

    def judge(self, paper):
        return judge_rule_paper(self.book, self.machines, self.rule, paper)

    def test_a_small_paper(self):
        paper = rule_paper(self.book, self.machines, self.rule)
        self.assertEqual(paper, ((END, ((),)), (self.pair, ((self.even,), (self.odd,)))))
        self.assertIs(self.judge(paper), True)

    def test_a_rule_that_does_not_hold(self):
        self.assertIsNone(rule_paper(self.book, self.machines, takes("X")))
        paper = rule_paper(self.book, self.machines, self.rule)
        for rule in [takes("X"), ("not", takes("X")), takes("X a"), ("not", self.rule)]:
            self.assertIs(judge_rule_paper(self.book, self.machines, rule, paper), False)

    def test_pairs_and_vectors_are_those_of_the_table_in_ascending_order(self):
        asked = book("ab", "X Y a = a Y X")
        machines = [beginner("ab", "a"), ender("ab", "b")]
        paper = rule_paper(asked, machines, ("either", takes("X"), ("not", takes("X"))))
        table = Table(asked, machines)
        self.assertEqual([pair for pair, _ in paper], sorted(table.web.pairs))
        for pair, vectors in paper:
            self.assertEqual(vectors, table.vectors_at(pair))

    def test_pairs_that_are_not_useful_have_rows_without_vectors(self):
        asked = book("ab", "X a = b X")
        paper = rule_paper(asked, self.machines, ("not", takes("")))
        self.assertEqual(paper, (((("X", "a"), ("b", "X")), ()),))
        self.assertIs(judge_rule_paper(asked, self.machines, ("not", takes("")), paper), True)

    def test_the_order_is_free_and_vectors_may_stand_several_times(self):
        for paper in [((self.pair, ((self.odd,), (self.even,))), (END, ((),))),
                      ((END, ((), (), ())), (self.pair, ((self.even,), (self.odd,), (self.even,))))]:
            self.assertIs(self.judge(paper), True)

    def test_a_row_that_is_left_out(self):
        self.assertIs(self.judge(()), False)
        self.assertIs(self.judge(((END, ((),)),)), False)
        self.assertIs(self.judge(((self.pair, ((self.even,), (self.odd,))),)), False)

    def test_a_row_that_is_doubled(self):
        row = (self.pair, ((self.even,), (self.odd,)))
        self.assertIs(self.judge(((END, ((),)), row, row)), False)
        self.assertIs(self.judge(((END, ((),)), (END, ((),)), row)), False)
        self.assertIs(self.judge(((END, ((),)), (self.pair, ((self.even,),)), (self.pair, ((self.odd,),)))), False)

    def test_a_row_without_vectors_or_with_too_few(self):
        self.assertIs(self.judge(((END, ((),)), (self.pair, ()))), False)
        self.assertIs(self.judge(((END, ()), (self.pair, ((self.even,), (self.odd,))))), False)
        self.assertIs(self.judge(((END, ((),)), (self.pair, ((self.odd,),)))), False)

    def test_vectors_that_are_none_of_the_pair(self):
        good = (self.even,), (self.odd,)
        for more in [(), (self.even, self.even), self.even, (0,), ((),), ((((1, 1), (1, 1)),),), (((0, 1), (0, 1)),), (((((self.even,),),),),),
                     (((self.even[0], self.even[0])),), 7 * (self.odd,), ((((0, 1, 2), (0, 1, 2)),),)]:
            with self.subTest(more):
                self.assertIs(self.judge(((END, ((),)), (self.pair, (*good, more)))), False)
        self.assertIs(self.judge(((END, ((), (self.even,))), (self.pair, good))), False)

    def test_the_unit_is_a_vector_only_if_the_closing_has_it(self):
        asked, machines = book("ab", "X = a"), [beginner("ab", "a")]
        rule = ("either", takes("X"), ("not", takes("X")))
        paper = rule_paper(asked, machines, rule)
        self.assertIs(judge_rule_paper(asked, machines, rule, paper), True)
        (end, row) = paper
        self.assertIs(judge_rule_paper(asked, machines, rule, (end, (row[0], (*row[1], (effect(machines, "b"),))))), True)
        self.assertIs(judge_rule_paper(asked, machines, rule, (end, (row[0], (*row[1], (unit(machines),))))), False)

    def test_vectors_that_the_pair_does_not_have(self):
        # They may stand in the paper if what they make stands there, too, and keeps the rule.
        asked, machines = book("ab", "X = a"), [beginner("ab", "a")]
        always, begins = ("not", takes("")), takes("X")
        paper = rule_paper(asked, machines, always)
        wider = tuple((pair, vectors if pair == END else (*vectors, (effect(machines, "b"),))) for pair, vectors in paper)
        self.assertNotEqual(wider, paper)
        self.assertIs(judge_rule_paper(asked, machines, always, wider), True)
        self.assertIs(judge_rule_paper(asked, machines, begins, paper), True)
        self.assertIs(judge_rule_paper(asked, machines, begins, wider), False)

    def test_more_pairs(self):
        paper = rule_paper(self.book, self.machines, self.rule)
        dead_end = (("X", "a"), ("b", "X"))
        self.assertIs(self.judge((*paper, (dead_end, ()))), True)
        self.assertIs(self.judge((*paper, (dead_end, ((self.odd,),)))), True)
        other_end = (("X", "b"), ("a", "X"))
        self.assertIs(self.judge((*paper, (other_end, ()))), True)
        self.assertIs(self.judge((*paper, (other_end, ((self.odd,),)))), False)
        self.assertIs(self.judge((*paper, (other_end, ((self.odd,), (self.even,))))), True)
        self.assertIs(self.judge((*paper, ((("X",), ("b",)), ((self.even,),)))), True)
        self.assertIs(self.judge((*paper, ((("X",), ("b",)), ((self.even,), (self.odd,))))), True)
        self.assertIs(self.judge((*paper, ((("X",), ("b",)), ()))), False)
        self.assertIs(self.judge((*paper, ((("X", "X"), ("a", "b")), ()))), False)
        with_mark = (("X", "a", "#", "a"), ("b", "X", "#", "a"))
        self.assertIs(self.judge((*paper, (with_mark, ()))), True)

    def test_pairs_that_are_not_settled_or_dead(self):
        paper = rule_paper(self.book, self.machines, self.rule)
        for pair in [(("a", "X"), ("a", "b")), (("X",), ("X",)), (("X",), ("X~",)), (("#",), ("#",)), (("X",), ()), ((), ("a",)), (("a",), ("b", "X")),
                     (("#", "X"), ("a",)), (("X",), ("#",)), (("a",), ("a",))]:
            for vectors in [(), ((self.even,), (self.odd,)), ((),)]:
                with self.subTest((pair, vectors)):
                    self.assertIs(self.judge((*paper, (pair, vectors))), False)

    def test_strange_symbols(self):
        paper = rule_paper(self.book, self.machines, self.rule)
        for symbol in ["c", "Y", "Y~", "", "X~~", "~", "ab", "##", "x", "X1", "a~", "#~"]:
            for pair in [((symbol, "a"), ("b", "X")), (("X", symbol), ("b", "X")), (("X", "a"), ("b", "X", symbol))]:
                with self.subTest(pair):
                    self.assertIs(self.judge((*paper, (pair, ()))), False)

    def test_pieces_that_stand_too_often(self):
        paper = rule_paper(self.book, self.machines, self.rule)
        self.assertIs(self.judge((*paper, ((("X", "a", "X"), ("b", "X~")), ()))), False)
        self.assertIs(self.judge((*paper, ((("X", "a", "b"), ("b", "X~")), ()))), True)
        asked = book("ab", "X a = a X", "Y = a")
        closed = rule_paper(asked, self.machines, takes("X X"))
        more = (("X", "a", "X", "X"), ("b",))
        self.assertIs(judge_rule_paper(asked, self.machines, takes("X X"), closed), True)
        self.assertIs(judge_rule_paper(asked, self.machines, takes("X X"), (*closed, (more, ()))), False)

    def test_starts_that_free_pieces(self):
        asked = book("ab", "X = X")
        rule = ("either", takes("X"), ("not", takes("X")))
        self.assertEqual(rule_paper(asked, self.machines, rule), ((END, ((),)),))
        self.assertIs(judge_rule_paper(asked, self.machines, rule, ((END, ((),)),)), True)
        self.assertIs(judge_rule_paper(asked, self.machines, takes("X"), ((END, ((),)),)), False)
        self.assertIs(judge_rule_paper(asked, self.machines, takes("X X~"), ((END, ((),)),)), True)
        mirrors = book("ab", "X = X~")
        machines = [beginner("ab", "a"), ender("ab", "a")]
        same = ("either", ("both", takes("X"), takes("X", 1)), ("both", ("not", takes("X")), ("not", takes("X", 1))))
        self.assertIs(judge_rule_paper(mirrors, machines, same, ((END, ((),)),)), True)
        self.assertIs(judge_rule_paper(asked, machines, same, ((END, ((),)),)), False)

    def test_books_without_equations_or_pieces(self):
        self.assertEqual(rule_paper(Book("ab"), self.machines, takes("")), ((END, ((),)),))
        self.assertIsNone(rule_paper(Book("ab"), self.machines, takes("a")))
        self.assertEqual(rule_paper(book("ab", "a = b"), self.machines, takes("a")), ())
        self.assertIs(judge_rule_paper(book("ab", "a = b"), self.machines, takes("a"), ()), True)
        self.assertIs(judge_rule_paper(Book("ab"), self.machines, takes(""), ()), False)
        self.assertIs(judge_rule_paper(Book("ab"), self.machines, takes("a"), ((END, ((),)),)), False)
        self.assertIs(judge_rule_paper(book("ab", "a = b"), self.machines, takes("a"), ((END, ()),)), False)

    def test_there_is_a_paper_if_and_only_if_the_rule_holds(self):
        for sample in all_samples()[::6]:
            for machines in machines_for(sample.letters)[:2]:
                for rule in rules_for(sample, machines)[::7]:
                    paper = rule_paper(sample, machines, rule)
                    self.assertIs(paper is not None, holds(sample, machines, rule))
                    if paper is not None:
                        self.assertIs(judge_rule_paper(sample, machines, rule, paper), True)
                        self.assertIs(judge_rule_paper(sample, machines, rule, paper[::-1]), True)
                        for at, (pair, vectors) in list(enumerate(paper))[-6:]:
                            left_out = paper[:at] + paper[at + 1:]
                            self.assertIs(judge_rule_paper(sample, machines, rule, left_out), False)
                            if vectors:
                                fewer = (*left_out, (pair, vectors[1:]))
                                self.assertIs(judge_rule_paper(sample, machines, rule, fewer), False)

    def test_no_paper_shows_a_rule_that_does_not_hold(self):
        for sample in all_samples()[::5]:
            machines = [counter(sample.letters, "a", 2, 0)]
            for rule in rules_for(sample, machines):
                if not holds(sample, machines, rule):
                    table, effects = Table(sample, machines), Closing(machines).effects
                    known = tuple((pair, table.vectors_at(pair)) for pair in table.web.pairs)
                    self.assertIs(judge_rule_paper(sample, machines, rule, known), False)
                    many = tuple((pair, vectors if len(pair[0] + pair[1]) == 0 else tuple((worth,) for worth in effects))
                                 for pair, vectors in known)
                    self.assertIs(judge_rule_paper(sample, machines, rule, many), False)


class Errors(unittest.TestCase):

    def setUp(self):
        self.book = book("ab", "X a = b X")

    def calls(self, machines, rule):
        """Calls of both functions."""
        return [lambda: rule_paper(self.book, machines, rule), lambda: judge_rule_paper(self.book, machines, rule, ()),
                lambda: judge_rule_paper(self.book, machines, rule, (((("?",), ("?",)), ()),))]

    def test_machines_come_first(self):
        for machines in [[], [even_machine()] * 4, [Machine.taking_all("a")], [many_effects(), Machine.taking_all("abc")]]:
            for call in self.calls(machines, "no rule"):
                with self.assertRaises(BadMachine):
                    call()

    def test_rules_come_next(self):
        for machines in [[even_machine()], [many_effects()], sixty_one()]:
            for rule in [(), takes("Y"), takes("X", 3), ("not", "X"), balanced(5, takes("X"))]:
                for call in self.calls(machines, rule):
                    with self.assertRaises(BadRule):
                        call()

    def test_effects_come_last(self):
        for machines in [[many_effects()], sixty_one()]:
            for call in self.calls(machines, takes("X")):
                with self.assertRaises(TooLarge) as caught:
                    call()
                self.assertEqual((caught.exception.what, caught.exception.limit), ("effects", 60))

    def test_the_arguments_stay_as_they_are(self):
        machines = [even_machine()]
        asked = book("ab", "X a = a X")
        paper = rule_paper(asked, machines, takes("X X"))
        machines.append(ender("ab", "a"))
        self.assertEqual(rule_paper(asked, machines[:1], takes("X X")), paper)
        judge_rule_paper(asked, machines, takes("X X"), paper)
        self.assertEqual(len(machines), 2)


if __name__ == "__main__":
    unittest.main()
