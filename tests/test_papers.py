"""Points 19, 37 and 38: twiceeach.papers."""

import itertools
import unittest

from tests.samples import all_samples, book
from twiceeach.books import Book
from twiceeach.pairs import END, after, lots_of, moves, start
from twiceeach.papers import closed_paper, endless_paper, judge_closed, judge_endless, judge_walk
from twiceeach.useful import verdict
from twiceeach.walks import walks
from twiceeach.web import Web


def pair_of(text):
    """A pair that is written as "X a = a X"."""
    return tuple(tuple(side.split()) for side in text.split("="))


NEVER = book("ab", "X a = b X")
LOOP = pair_of("X a = b X")


class ClosedPapers(unittest.TestCase):

    def test_a_small_paper(self):
        self.assertEqual(closed_paper(NEVER), (LOOP,))
        self.assertIs(judge_closed(NEVER, (LOOP,)), True)

    def test_the_paper_has_the_pairs_of_the_web_in_ascending_order(self):
        paper = closed_paper(book("ab", "X Y a = Y X b"))
        self.assertEqual(paper, (pair_of("X Y a = Y X b"),))
        paper = closed_paper(book("ab", "X a b = b b X"))
        self.assertEqual(paper, (pair_of("X a b = b b X"),))
        asked = book("abc", "Y c = a X b", "Y = X")
        listed = tuple(pair_of(text) for text in ["Y c # Y = a X b # X", "Y c # a X Y = b # X", "Y c # a Y = X b # X",
                                                  "c # a = X b # X", "c # a Y = X b # Y X"])
        self.assertEqual(closed_paper(asked, lots=((),)), listed)
        self.assertEqual(set(Web(asked, lots=((),)).pairs), set(listed))
        self.assertNotEqual(Web(asked, lots=((),)).pairs, listed)

    def test_no_paper_for_a_solvable_web(self):
        for sample in [Book("ab"), book("ab", "X ="), book("ab", "X a = a X"), book("ab", "X = X")]:
            self.assertIsNone(closed_paper(sample))
        self.assertIsNone(closed_paper(book("ab", "X ="), lots=(("X",),)))
        self.assertEqual(closed_paper(book("ab", "X ="), lots=((),)), ())

    def test_no_lots_need_nothing(self):
        self.assertEqual(closed_paper(Book("ab"), lots=()), ())
        self.assertIs(judge_closed(Book("ab"), (), lots=()), True)
        self.assertIs(judge_closed(book("ab", "X a = a X"), (), lots=()), True)

    def test_the_empty_paper(self):
        self.assertEqual(closed_paper(book("ab", "a = b")), ())
        self.assertIs(judge_closed(book("ab", "a = b"), ()), True)
        self.assertIs(judge_closed(NEVER, ()), False)
        self.assertIs(judge_closed(NEVER, (), lots=(("X",),)), True)
        self.assertIs(judge_closed(NEVER, (), lots=((),)), False)
        self.assertIs(judge_closed(Book("ab"), ()), False)

    def test_order_and_repetition_are_free(self):
        other = pair_of("Q c = d Q")
        for paper in [(LOOP, LOOP), (LOOP, other), (other, LOOP), (other, LOOP, other, LOOP)]:
            self.assertIs(judge_closed(NEVER, paper), True)

    def test_pairs_that_lead_out_of_the_paper(self):
        self.assertIs(judge_closed(NEVER, (LOOP, pair_of("Q = c"))), False)
        self.assertIs(judge_closed(NEVER, (LOOP, pair_of("Q c = c Q"))), False)
        self.assertIs(judge_closed(NEVER, (LOOP, pair_of("Q b = a Q"), pair_of("c d Z = Z e"))), False)
        self.assertIs(judge_closed(NEVER, (LOOP, pair_of("Q c c = d c Q"))), False)
        self.assertIs(judge_closed(NEVER, (LOOP, pair_of("Q c c = d c Q"), pair_of("Q c c = c d Q"))), True)

    def test_pairs_that_are_not_settled_and_live(self):
        for text in ["=", "a X b = a b X", "X # b = c", "# = #", "a = b", "X =", "= a", "# X = a X", "X X a = X b X", "Y X a = Y b X",
                     "Y X a = Y~ b X", "a = #"]:
            with self.subTest(text):
                good = text == "X # b = c"
                self.assertIs(judge_closed(NEVER, (LOOP, pair_of(text))), good)

    def test_a_start_that_is_missing(self):
        asked = book("ab", "X Y a = b Y X")
        paper = closed_paper(asked)
        for lot in lots_of(asked.pieces):
            result = start(asked, lot)
            if result is not None:
                rest = tuple(pair for pair in paper if pair != result[1])
                self.assertIs(judge_closed(asked, rest), False)

    def test_there_is_a_closed_paper_if_the_web_is_not_solvable(self):
        many = 0
        for sample in all_samples():
            for lots in [None, (), ((),), lots_of(sample.pieces)[::-2]]:
                web = Web(sample, lots=lots)
                paper = closed_paper(sample, lots=lots)
                self.assertIs(paper is None, web.solvable)
                if paper is None:
                    self.assertIs(judge_closed(sample, web.pairs, lots=lots), False)
                    without_end = tuple(pair for pair in web if pair != END)
                    self.assertIs(judge_closed(sample, without_end, lots=lots), False)
                else:
                    many += 1
                    self.assertEqual(paper, tuple(sorted(web.pairs)))
                    self.assertIs(judge_closed(sample, paper, lots=lots), True)
                    for at in range(len(paper)):
                        self.assertIs(judge_closed(sample, paper[:at] + paper[at + 1:], lots=lots), False)
            self.assertIs(closed_paper(sample) is not None, verdict(sample) == "none")
        self.assertGreater(many, 50)


class JudgedWalks(unittest.TestCase):

    def setUp(self):
        self.book = book("ab", "X a = a X", "Y b = b Y")

    def test_walks(self):
        taken = (("starts", "X", "a"), ("is", "X", "a"), ("is", "Y", "b"))
        self.assertIs(judge_walk(self.book, ((), taken)), True)
        self.assertIs(judge_walk(self.book, (("Y",), taken[:2])), True)
        self.assertIs(judge_walk(self.book, (("X", "Y"), ())), True)
        self.assertIs(judge_walk(Book("ab"), ((), ())), True)
        self.assertIs(judge_walk(book("ab", "X = X~"), ((), ())), True)

    def test_lots_that_are_none(self):
        for lot in [("Y", "X"), ("X", "X"), ("X", "Y", "Z"), ("Z",), ("X~",), ("a",), ("X", "Y", "Y"), ("",)]:
            with self.subTest(lot):
                self.assertIs(judge_walk(self.book, (lot, ())), False)

    def test_moves_that_do_not_fit(self):
        good = (("is", "X", "a"), ("is", "Y", "b"))
        self.assertIs(judge_walk(self.book, ((), good)), True)
        for taken in [(), good[:1], good[::-1], good + good[:1], (("is", "a", "X"), good[1]), (("is", "X~", "a"), good[1]),
                      (("starts", "X", "b"), *good), (("", "X", "a"), good[1]), (("is", "X", "b"), good[1]),
                      (("is", "", ""), good[1]), (good[0], ("starts", "Y", "b"))]:
            with self.subTest(taken):
                self.assertIs(judge_walk(self.book, ((), taken)), False)

    def test_a_dead_start_and_a_dead_result(self):
        self.assertIs(judge_walk(book("ab", "X a = b X"), (("X",), ())), False)
        self.assertIs(judge_walk(book("ab", "X a = b X"), ((), (("is", "X", "b"),))), False)
        self.assertIs(judge_walk(book("ab", "a = b"), ((), ())), False)

    def test_the_walks_of_small_books_are_all_that_plain_search_finds(self):
        for sample in all_samples()[:60]:
            listed = set(walks(sample, most=4))
            for lot in lots_of(sample.pieces):
                for taken in plain_walks(sample, lot, 3):
                    self.assertIs(judge_walk(sample, (lot, taken)), True)
                    self.assertIn((lot, taken), set(walks(sample, most=8)) if (lot, taken) not in listed else listed)


def plain_walks(sample, lot, most):
    """The moves of all walks with the lot that have at most so many moves."""
    result = start(sample, lot)
    ways = [] if result is None else [((), result[1])]
    for taken, pair in ways:
        if len(taken) < most:
            for move in moves(pair):
                behind = after(pair, move)
                if behind is not None:
                    ways.append((taken + (move,), behind[1]))
    return [taken for taken, pair in ways if pair == END]


class EndlessPapers(unittest.TestCase):

    def test_there_is_one_if_the_verdict_is_endless(self):
        kinds = {}
        for sample in all_samples():
            paper = endless_paper(sample)
            self.assertIs(paper is not None, verdict(sample) == "endless")
            if paper is not None:
                lot, before, ring, behind = paper
                kinds[ring == ()] = True
                self.assertIs(judge_endless(sample, paper), True)
                self.assertIs(judge_walk(sample, (lot, before + behind)), True)
                for taken in paper[1:]:
                    self.assertIsInstance(taken, tuple)
                    self.assertLessEqual(len(taken), len(Web(sample)))
        self.assertEqual(kinds, {True: True, False: True})

    def test_a_piece_freed_at_the_start(self):
        asked = book("ab", "X = X", "Y = a")
        self.assertIs(judge_endless(asked, ((), (), (), (("is", "Y", "a"),))), True)
        self.assertIs(judge_endless(asked, ((), (("is", "Y", "a"),), (), ())), True)
        self.assertIs(judge_endless(asked, (("X",), (), (), (("is", "Y", "a"),))), False)
        self.assertIs(judge_endless(asked, ((), (), (), ())), False)

    def test_a_piece_freed_by_a_move(self):
        asked = book("ab", "X a = Y a")
        self.assertIs(judge_endless(asked, ((), (("is", "X", "Y"),), (), ())), True)
        self.assertIs(judge_endless(asked, ((), (), (), (("is", "X", "Y"),))), True)
        self.assertIs(judge_endless(asked, ((), (), (("is", "X", "Y"),), ())), False)
        self.assertIs(judge_endless(asked, (("X", "Y"), (), (), ())), False)

    def test_a_ring(self):
        asked = book("ab", "X a = a X")
        round_trip, out = (("starts", "X", "a"),), (("is", "X", "a"),)
        self.assertIs(judge_endless(asked, ((), (), round_trip, out)), True)
        self.assertIs(judge_endless(asked, ((), round_trip, round_trip * 3, round_trip + out)), True)
        self.assertIs(judge_endless(asked, ((), (), (), out)), False)
        self.assertIs(judge_endless(asked, ((), (), round_trip, ())), False)
        self.assertIs(judge_endless(asked, ((), (), round_trip, round_trip)), False)
        self.assertIs(judge_endless(asked, ((), (), out, out)), False)
        self.assertIs(judge_endless(asked, ((), out, round_trip, ())), False)
        self.assertIs(judge_endless(asked, ((), (), (("starts", "X", "b"),), out)), False)
        self.assertIs(judge_endless(asked, ((), (), round_trip + (("is", "X", "b"),), out)), False)
        self.assertIs(judge_endless(asked, (("X",), (), round_trip, ())), False)

    def test_a_ring_that_is_not_closed(self):
        asked = book("ab", "X a b = a b X")
        step = (("starts", "X", "a"), ("starts", "X", "b"))
        out = (("is", "X", "a"),)
        self.assertIs(judge_walk(asked, ((), step[:1] + (("is", "X", "b"),))), True)
        self.assertIs(judge_endless(asked, ((), step[:1], (step[1], step[0]), (("is", "X", "b"),))), True)
        self.assertIs(judge_endless(asked, ((), step[:1], (step[1],), (("is", "X", "b"),))), False)
        self.assertIs(judge_endless(asked, ((), step[:1], step, (("is", "X", "b"),))), False)
        self.assertIs(judge_endless(asked, ((), (), step, out)), False)

    def test_a_piece_that_only_the_ring_frees_is_not_enough(self):
        asked = book("ab", "X = a", "Y a = a Y")
        taken = (("is", "X", "a"), ("is", "Y", "a"))
        self.assertIs(judge_endless(asked, ((), taken, (), ())), False)
        self.assertIs(judge_endless(asked, ((), taken[:1], (("starts", "Y", "a"),), taken[1:])), True)

    def test_lots_that_are_none(self):
        asked = book("ab", "X = X", "Y =")
        self.assertIs(judge_endless(asked, (("Y",), (), (), ())), True)
        for lot in [(), ("Z",), ("Y", "Z"), ("Y", "Y"), ("y",), ("X", "Y"), ("Y", "X")]:
            with self.subTest(lot):
                self.assertIs(judge_endless(asked, (lot, (), (), ())), False)

    def test_books_without_endless_papers(self):
        for sample in [Book("ab"), book("ab", "a = b"), book("ab", "X Y = a b a"), NEVER]:
            self.assertIsNone(endless_paper(sample))
            for lot, taken in itertools.product([(), ("X",)], [(), (("is", "X", "a"),)]):
                self.assertIs(judge_endless(sample, (lot, taken, (), ())), False)


if __name__ == "__main__":
    unittest.main()
