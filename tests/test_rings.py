"""Points 95 to 100: twiceeach.rings."""

import itertools
import unittest

from tests.samples import search, text_of
from tests.test_cuts import row, two_rows
from twiceeach.books import Book
from twiceeach.cuts import cut_book, cut_lots, cuts
from twiceeach.errors import BadLengths, BadLetters, BadSymbol, StandsThrice, TooLarge
from twiceeach.papers import closed_paper
from twiceeach.rings import alike_ring, judge_ring_papers, ring_count, ring_fillings, ring_papers
from twiceeach.turnings import turnings
from twiceeach.web import Web


class NoEquation:
    """Two rows in the form that the plain search asks for, with no equation to fill."""

    def __init__(self, letters, left, right):
        self.letters = letters
        self.equations = [(left + right, left + right)]


def plain_rings(letters, left, right, most):
    """The fillings up to a total that make the rows alike as rings, by trying all texts."""
    found = search(NoEquation(letters, left, right), most)
    return [one for one in found if turnings(text_of(left, one), text_of(right, one)) != ()]


class RingFillings(unittest.TestCase):

    def test_small_rows(self):
        self.assertEqual(ring_fillings("ab", row("X b"), row("b Y"), most=2),
                         [{"X": "", "Y": ""}, {"X": "a", "Y": "a"}, {"X": "b", "Y": "b"}])
        self.assertEqual(ring_fillings("ab", row("X a"), row("b X"), most=8), [])
        self.assertEqual(ring_fillings("ab", row("a b b"), row("X"), most=3), [{"X": "abb"}, {"X": "bab"}, {"X": "bba"}])
        self.assertEqual(ring_fillings("ab", row("a b b"), row("X"), most=2), [])

    def test_rows_without_pieces_and_empty_rows(self):
        self.assertEqual(ring_fillings("ab", row("a b a"), row("b a a"), most=0), [{}])
        self.assertEqual(ring_fillings("ab", row("a b"), row("b b"), most=12), [])
        self.assertEqual(ring_fillings("ab", (), (), most=3), [{}])
        self.assertEqual(ring_fillings("ab", row("X"), (), most=12), [{"X": ""}])
        self.assertEqual(ring_fillings("ab", (), row("X~"), most=12), [{"X": ""}])
        self.assertEqual(ring_fillings("ab", row("a"), (), most=12), [])

    def test_keys_are_in_ascending_order(self):
        for one in ring_fillings("ab", row("Z B1"), row("B a"), most=4):
            self.assertEqual(list(one), ["B", "B1", "Z"])

    def test_they_are_those_that_plain_search_finds(self):
        for letters, left, right in two_rows(80, seed=29):
            self.assertEqual(ring_fillings(letters, left, right, most=4), plain_rings(letters, left, right, 4))

    def test_a_piece_that_the_cut_goes_through(self):
        for left, right in [("X Y", "Y X~"), ("X a Y", "Y~ b X"), ("a b a", "X"), ("X X", "Y Y"), ("X X~", "Y Y~"), ("b", "X a X~")]:
            found = ring_fillings("ab", row(left), row(right), most=5)
            self.assertEqual(found, plain_rings("ab", row(left), row(right), 5))

    def test_changing_an_answer_has_no_effect(self):
        ring_fillings("ab", row("X"), row("a"), most=2)[0]["X"] = "b"
        ring_fillings("ab", row("X"), row("a"), most=2).clear()
        self.assertEqual(ring_fillings("ab", row("X"), row("a"), most=2), [{"X": "a"}])


class AlikeRings(unittest.TestCase):

    def test_the_first_cut(self):
        self.assertEqual(alike_ring("ab", row("X b"), row("b Y")), ("between", 0))
        self.assertEqual(alike_ring("ab", row("a b b"), row("b a b")), ("between", 1))
        self.assertEqual(alike_ring("ab", row("a b a"), row("a a b")), ("between", 1))
        self.assertEqual(alike_ring("ab", row("a b b"), row("b b a")), ("between", 2))
        self.assertEqual(alike_ring("ab", row("a X"), row("b")), None)

    def test_it_is_the_first_cut_whose_web_is_solvable(self):
        for letters, left, right in [rows for rows in two_rows(60, seed=37) if len(rows[1] + rows[2]) < 7]:
            found = alike_ring(letters, left, right)
            for cut in cuts(left, right):
                made = cut_book(letters, left, right, cut)
                solvable = Web(made[0], lots=cut_lots(made)).solvable
                self.assertIs(solvable, cut == found)
                if solvable:
                    break

    def test_a_cut_within_is_found_where_none_between_fits(self):
        for left, right in [("b X b", "Y a"), ("b Y a", "X~ X"), ("a X~ a", "Y~ b")]:
            self.assertEqual(alike_ring("ab", row(left), row(right)), ("within", 0))
            self.assertNotEqual(ring_fillings("ab", row(left), row(right), most=4), [])

    def test_rings_without_a_filling(self):
        for left, right in [("X a", "b X"), ("a", ""), ("X a Y", "Y b X"), ("a b", "a a"), ("a a b b", "X X~ a")]:
            self.assertIsNone(alike_ring("ab", row(left), row(right)))
            self.assertEqual(ring_fillings("ab", row(left), row(right), most=8), [])

    def test_empty_rows(self):
        self.assertEqual(alike_ring("ab", (), ()), ("between", 0))
        self.assertEqual(alike_ring("ab", row("X"), ()), ("between", 0))

    def test_there_is_a_cut_if_there_is_a_filling(self):
        for letters, left, right in two_rows(80, seed=41):
            found = ring_fillings(letters, left, right, most=6)
            cut, papers = alike_ring(letters, left, right), ring_papers(letters, left, right)
            self.assertIs(cut is None, papers is not None)
            if found:
                self.assertIsNotNone(cut)
            if cut is None:
                self.assertEqual(found, [])


class RingPapers(unittest.TestCase):

    def test_small_papers(self):
        papers = ring_papers("ab", row("X a"), row("b X"))
        self.assertEqual(len(papers), 3)
        for cut, paper in zip(cuts(row("X a"), row("b X")), papers):
            made = cut_book("ab", row("X a"), row("b X"), cut)
            self.assertEqual(paper, closed_paper(made[0], lots=cut_lots(made)))
        self.assertEqual(papers[0], ((("X", "a"), ("b", "X")),))
        self.assertEqual(ring_papers("ab", row("a"), ()), ((),))
        self.assertIsNone(ring_papers("ab", row("X b"), row("b Y")))
        self.assertIsNone(ring_papers("ab", (), ()))

    def test_they_are_judged_good(self):
        for letters, left, right in two_rows(80, seed=43):
            papers = ring_papers(letters, left, right)
            self.assertIs(papers is None, alike_ring(letters, left, right) is not None)
            if papers is not None:
                self.assertIs(judge_ring_papers(letters, left, right, papers), True)
                self.assertIs(judge_ring_papers(letters, left, right, papers[1:]), False)
                self.assertIs(judge_ring_papers(letters, left, right, (*papers, ())), False)

    def test_papers_that_are_none(self):
        left, right = row("X a"), row("b X")
        papers = ring_papers("ab", left, right)
        self.assertIs(judge_ring_papers("ab", left, right, ()), False)
        self.assertIs(judge_ring_papers("ab", left, right, ((), *papers[1:])), False)
        self.assertIs(judge_ring_papers("ab", left, right, (papers[0], (), ())), False)
        self.assertEqual(papers[1], ())
        self.assertIs(judge_ring_papers("ab", left, right, (papers[0] * 3, papers[1][::-1], papers[2])), True)
        self.assertIs(judge_ring_papers("ab", left, right, ((*papers[0], ((), ())), *papers[1:])), False)
        self.assertIs(judge_ring_papers("ab", row("X b"), row("b Y"), ((),) * 3), False)

    def test_lots_of_cuts_within(self):
        # With an empty part of the cut piece, the book of the cut within would be filled.
        left, right = row("a"), row("X X")
        self.assertEqual(ring_papers("ab", left, right), tuple(
            closed_paper(cut_book("ab", left, right, cut)[0], lots=cut_lots(cut_book("ab", left, right, cut)))
            for cut in cuts(left, right)))
        self.assertIs(judge_ring_papers("ab", row("b"), row("X X"), ring_papers("ab", row("b"), row("X X"))), True)


class RingCounts(unittest.TestCase):

    def test_small_rows(self):
        self.assertEqual(ring_count("ab", row("X"), row("Y"), {"X": 2, "Y": 2}), 6)
        self.assertEqual(ring_count("ab", row("X"), row("a b"), {"X": 2}), 2)
        self.assertEqual(ring_count("ab", row("X"), row("a a"), {"X": 2}), 1)
        self.assertEqual(ring_count("ab", row("X"), row("X"), {"X": 8}), 256)
        self.assertEqual(ring_count("abcd", row("X"), row("Y"), {"X": 1, "Y": 1}), 4)

    def test_rows_of_different_lengths_and_empty_rows(self):
        self.assertEqual(ring_count("ab", row("X"), row("Y"), {"X": 30, "Y": 29}), 0)
        self.assertEqual(ring_count("ab", row("X a"), row("X"), {"X": 9}), 0)
        self.assertEqual(ring_count("ab", row("X"), row("Y"), {"X": 0, "Y": 0}), 1)
        self.assertEqual(ring_count("ab", (), (), {}), 1)
        self.assertEqual(ring_count("ab", row("a b"), row("b a"), {}), 1)
        self.assertEqual(ring_count("ab", row("a b"), row("b b"), {}), 0)

    def test_eight_and_nine_letters(self):
        texts = ["".join(text) for text in itertools.product("ab", repeat=8)]
        plain = sum(one in set(other[at:] + other[:at] for at in range(8)) for one in texts for other in texts)
        self.assertEqual(ring_count("ab", row("X"), row("Y"), {"X": 8, "Y": 8}), plain)
        for left, right, lengths in [("X", "Y", {"X": 9, "Y": 9}), ("X a b", "Y", {"X": 7, "Y": 9}), ("X", "Y", {"X": 30, "Y": 30}),
                                     ("a " * 9, "b " * 9, {})]:
            with self.assertRaises(TooLarge) as caught:
                ring_count("ab", row(left), row(right), lengths)
            self.assertEqual((caught.exception.what, caught.exception.limit), ("turnings", 8))
        self.assertEqual(ring_count("ab", row("a " * 8), row("a " * 8), {}), 1)

    def test_they_are_the_listed_ring_fillings(self):
        for letters, left, right in two_rows(80, seed=47):
            found = ring_fillings(letters, left, right, most=5)
            names = Book(letters, [(left, right)]).pieces
            for chosen in itertools.product(range(4), repeat=len(names)):
                if sum(chosen) <= 5:
                    lengths = dict(zip(names, chosen))
                    with_lengths = [one for one in found if all(len(one[name]) == lengths[name] for name in names)]
                    if len(left) + len(right) + 2 * sum(chosen) <= 16:
                        self.assertEqual(ring_count(letters, left, right, lengths), len(with_lengths))

    def test_lengths_that_do_not_fit(self):
        for lengths, name in [({}, "X"), ({"X": 9}, "Y"), ({"X": 31, "Y": -1}, "X"), ({"X": 1, "Y": 31}, "Y"), ({"A": 1, "X": 9, "Y": 9}, "A")]:
            with self.subTest(lengths), self.assertRaises(BadLengths) as caught:
                ring_count("ab", row("X a"), row("Y b"), lengths)
            self.assertEqual(caught.exception.name, name)


class Errors(unittest.TestCase):

    def calls(self, letters, left, right, most=1):
        """Calls of all functions with the two rows."""
        return [lambda: alike_ring(letters, left, right), lambda: ring_fillings(letters, left, right, most=most),
                lambda: ring_papers(letters, left, right), lambda: judge_ring_papers(letters, left, right, ()),
                lambda: ring_count(letters, left, right, {"?": 99})]

    def assert_all_raise(self, error, field, worth, letters, left, right):
        for call in self.calls(letters, left, right):
            with self.assertRaises(error) as caught:
                call()
            self.assertEqual(getattr(caught.exception, field), worth)

    def test_what_creating_the_book_of_the_two_rows_raises(self):
        self.assert_all_raise(BadLetters, "letters", "ba", "ba", row("X"), row("c"))
        self.assert_all_raise(BadSymbol, "symbol", "c", "ab", row("X"), row("c d"))
        self.assert_all_raise(StandsThrice, "name", "X", "ab", row("X X"), row("Y X"))
        self.assert_all_raise(TooLarge, "what", "symbols", "ab", row("a") * 20, row("b") * 5)

    def test_what_creating_the_books_of_the_cuts_raises(self):
        self.assert_all_raise(TooLarge, "what", "pieces", "ab", row("A B C"), row("D E F"))
        self.assert_all_raise(TooLarge, "what", "symbols", "ab", row("a") * 20, row("b b b X"))
        self.assert_all_raise(TooLarge, "what", "symbols", "ab", row("A B C D E") + row("a") * 18, row("X"))
        self.assertIsNone(alike_ring("ab", row("a") * 20, row("b") * 4))

    def test_the_bound_comes_first(self):
        for most in (13, 99):
            for letters, left, right in [("ba", row("X"), row("c")), ("ab", row("X"), row("Y")), ("ab", row("A B C"), row("D E F"))]:
                with self.assertRaises(TooLarge) as caught:
                    ring_fillings(letters, left, right, most=most)
                self.assertEqual((caught.exception.what, caught.exception.limit), ("most", 12))
        self.assertEqual(len(ring_fillings("a", row("X"), row("X"), most=12)), 13)

    def test_the_bound_of_pieces_holds_for_cuts_within_only(self):
        self.assertEqual(ring_fillings("ab", row("A B C D E F"), row("a"), most=0), [])
        self.assertEqual(alike_ring("ab", row("A B C D E F"), row("a")), ("between", 0))


if __name__ == "__main__":
    unittest.main()
