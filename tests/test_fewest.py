"""Points 111 to 113: twiceeach.fewest."""

import functools
import itertools
import unittest

from tests.samples import texts_up_to
from tests.test_exchanges import all_exchanges
from tests.test_leading import PAIRS, plain_leads
from twiceeach.errors import BadLetters, BadSymbol, TooLarge
from twiceeach.exchanges import Exchange
from twiceeach.fewest import bars, fewest, judge_bars, lean_orders
from twiceeach.leading import leads_book
from twiceeach.papers import closed_paper, judge_closed


def is_positive(blocks):
    """True if no block is negative."""
    return all(block > 0 for block in blocks)


def plain_orders(many, turned):
    """All lean orders, by asking all exchanges."""
    found = [one.blocks for one in all_exchanges(many) if one.is_lean()]
    return sorted(blocks for blocks in found if turned or is_positive(blocks))


@functools.cache
def all_in_order(many, turned):
    """All exchanges of so many pieces, in ascending order of their blocks."""
    found = [one for one in all_exchanges(many) if turned or is_positive(one.blocks)]
    return sorted(found, key=lambda one: one.blocks)


def plain_fewest(text, other, turned, most):
    """The first blocks and the first cutting among all exchanges of at most so many pieces, or None."""
    for many in range(most + 1):
        for exchange in all_in_order(many, turned):
            found = plain_leads(exchange, text, other)
            if found:
                return exchange.blocks, found[0]
    return None


def told(found):
    """The blocks and the lengths of an answer, or None."""
    return None if found is None else (found[0].blocks, found[1])


class LeanOrders(unittest.TestCase):

    def test_small_orders(self):
        self.assertEqual(lean_orders(0), [()])
        self.assertEqual(lean_orders(0, turned=True), [()])
        self.assertEqual(lean_orders(1), [(1,)])
        self.assertEqual(lean_orders(1, turned=True), [(-1,), (1,)])
        self.assertEqual(lean_orders(2), [(2, 1)])
        self.assertEqual(lean_orders(2, turned=True), [(-2, 1), (-1, -2), (-1, 2), (1, -2), (2, -1), (2, 1)])
        self.assertEqual(lean_orders(3), [(1, 3, 2), (2, 1, 3), (3, 2, 1)])

    def test_they_are_the_blocks_of_all_lean_exchanges(self):
        for many, turned in itertools.product(range(6), [False, True]):
            self.assertEqual(lean_orders(many, turned=turned), plain_orders(many, turned))

    def test_many_pieces(self):
        found = lean_orders(8)
        self.assertEqual((len(found), found[0], found[-1]), (16687, (1, 3, 2, 4, 6, 5, 8, 7), (8, 7, 6, 5, 4, 3, 2, 1)))
        self.assertEqual(sorted(found), found)
        self.assertEqual(len(lean_orders(6, turned=True)), 30278)

    def test_a_new_list_at_each_call(self):
        lean_orders(2).clear()
        self.assertEqual(lean_orders(2), [(2, 1)])


class FewestPieces(unittest.TestCase):

    def test_small_texts(self):
        self.assertEqual(told(fewest("abab", "bbaa")), ((3, 2, 1), (1, 2, 1)))
        self.assertEqual(told(fewest("abab", "abab")), ((1,), (4,)))
        self.assertEqual(told(fewest("aab", "baa")), ((2, 1), (2, 1)))
        self.assertEqual(told(fewest("aab", "baa", turned=True)), ((-1,), (3,)))
        self.assertEqual(told(fewest("abcdefgh", "hgfedcba")), ((8, 7, 6, 5, 4, 3, 2, 1), (1,) * 8))
        self.assertEqual(told(fewest("abcdefgh", "badcfehg", turned=True)), ((-1, -2, -3, -4), (2, 2, 2, 2)))
        self.assertIsInstance(fewest("a", "a")[0], Exchange)

    def test_negative_blocks_come_first(self):
        self.assertEqual(told(fewest("a", "a", turned=True)), ((-1,), (1,)))
        self.assertEqual(told(fewest("aba", "aba", turned=True)), ((-1,), (3,)))
        self.assertEqual(told(fewest("abc", "abc", turned=True)), ((1,), (3,)))
        self.assertEqual(told(fewest("abcd", "bcda", turned=True)), ((2, -1), (1, 3)))
        self.assertEqual(told(fewest("bdfhaceg", "abcdefgh", turned=True))[0], (-5, -1, -6, -2, -7, -3, -8, -4))

    def test_empty_texts(self):
        for turned in (False, True):
            self.assertEqual(told(fewest("", "", turned=turned)), ((), ()))
            self.assertIsNone(fewest("", "a", turned=turned))
            self.assertIsNone(fewest("a", "", turned=turned))

    def test_letters_that_are_not_equally_many(self):
        for text, other in [("a", "b"), ("aab", "abb"), ("ab", "aba"), ("abcd", "abce"), ("aaaabbbb", "aaabbbbb")]:
            self.assertIsNone(fewest(text, other))
            self.assertIsNone(fewest(text, other, turned=True))

    def test_eight_and_nine_letters(self):
        self.assertEqual(told(fewest("a" * 8, "a" * 8)), ((1,), (8,)))
        for text, other in [("a" * 9, "a" * 9), ("a" * 9, "a"), ("a", "b" * 9), ("", "a" * 9)]:
            with self.assertRaises(TooLarge) as caught:
                fewest(text, other)
            self.assertEqual((caught.exception.what, caught.exception.limit), ("letters", 8))
            with self.assertRaises(TooLarge):
                fewest(text, other, turned=True)

    def test_plain_cutting_with_all_orders(self):
        for text in texts_up_to("ab", 4):
            for other in texts_up_to("ab", 4):
                if sorted(text) == sorted(other):
                    for turned in (False, True):
                        self.assertEqual(told(fewest(text, other, turned=turned)), plain_fewest(text, other, turned, 4))

    def test_longer_texts(self):
        pairs = [("abcab", "bcaba"), ("abcab", "cabba"), ("abcbab", "bbcaab"), ("abcde", "caebd"), ("abcdef", "defabc"),
                 ("aabbcc", "ccabab"), ("aabbaab", "bbaaaab")]
        for text, other in pairs:
            for turned in (False, True):
                found = plain_fewest(text, other, turned, 4)
                if found is not None:
                    self.assertEqual(told(fewest(text, other, turned=turned)), found)
                else:
                    self.assertGreater(len(fewest(text, other, turned=turned)[1]), 4)

    def test_one_with_the_fewest_pieces_is_lean_and_leads(self):
        for text, turned in itertools.product(["aabcc", "abcabc", "abababab", "abcdabcd"], [False, True]):
            for other in itertools.islice(itertools.permutations(text), 0, None, 997):
                made, lengths = fewest(text, "".join(other), turned=turned)
                self.assertTrue(made.is_lean())
                self.assertIn(lengths, plain_leads(made, text, "".join(other)))


class Bars(unittest.TestCase):

    def test_small_bars(self):
        papers = bars("ab", "ab", "ba", 1)
        self.assertEqual([blocks for blocks, _ in papers], [(), (1,)])
        for blocks, paper in papers:
            self.assertEqual(paper, closed_paper(leads_book("ab", Exchange(blocks), "ab", "ba"), lots=((),)))
        self.assertIsNone(bars("ab", "ab", "ba", 2))
        self.assertIsNone(bars("ab", "ab", "ba", 1, turned=True))
        self.assertIs(judge_bars("ab", "ab", "ba", 1, papers), True)

    def test_empty_texts_and_no_pieces(self):
        self.assertIsNone(bars("ab", "", "", 0))
        self.assertEqual(bars("ab", "a", "a", 0), (((), ()),))
        self.assertEqual([blocks for blocks, _ in bars("ab", "", "a", 2)], [(), (1,), (2, 1)])

    def test_there_are_bars_if_and_only_if_there_are_more_pieces(self):
        for (text, other), many, turned in itertools.product(PAIRS, range(5), [False, True]):
            if many < 4 or not turned:
                found, papers = fewest(text, other, turned=turned), bars("ab", text, other, many, turned=turned)
                self.assertIs(papers is not None, found is None or len(found[1]) > many)
                if papers is not None:
                    orders = [blocks for size in range(many + 1) for blocks in plain_orders(size, turned)]
                    self.assertEqual([blocks for blocks, _ in papers], orders)
                    self.assertIs(judge_bars("ab", text, other, many, papers, turned=turned), True)

    def test_papers_are_closed_papers(self):
        for blocks, paper in bars("ab", "aabb", "abbb", 4):
            self.assertIs(judge_closed(leads_book("ab", Exchange(blocks), "aabb", "abbb"), paper, lots=((),)), True)

    def test_judging(self):
        papers = bars("ab", "aab", "abb", 3)
        self.assertIs(judge_bars("ab", "aab", "abb", 3, papers), True)
        self.assertIs(judge_bars("ab", "aab", "abb", 3, tuple((blocks, paper[::-1] * 2) for blocks, paper in papers)), True)
        for wrong in [(), papers[1:], papers[:-1], papers[::-1], papers + papers[-1:], papers[:1] + papers, papers[1:2] + papers[1:],
                      tuple((blocks, ()) for blocks, _ in papers), papers[:-1] + (((1, 2, 3), papers[-1][1]),),
                      papers[:-1] + ((papers[-1][0], papers[-1][1][1:]),), papers[:-1] + ((papers[-1][0], papers[0][1]),)]:
            self.assertIs(judge_bars("ab", "aab", "abb", 3, wrong), False)
        self.assertIs(judge_bars("ab", "aab", "abb", 2, papers), False)
        self.assertIs(judge_bars("ab", "aab", "abb", 4, papers), False)
        self.assertIs(judge_bars("ab", "aab", "abb", 3, papers, turned=True), False)
        self.assertIs(judge_bars("ab", "ab", "ba", 1, bars("ab", "ab", "ba", 1), turned=True), False)
        self.assertIs(judge_bars("ab", "ab", "ab", 1, (((), ()), ((1,), ()))), False)

    def test_errors_in_their_order(self):
        long, good = "a" * 9, "ab"
        for call in [lambda: bars("ba", long, "c", 7), lambda: judge_bars("", "x", long, 8, ())]:
            with self.assertRaises(TooLarge) as caught:
                call()
            self.assertEqual((caught.exception.what, caught.exception.limit), ("letters", 8))
        for letters, text, other, many, error in [
                ("ba", "xy", good, 7, BadLetters("ba")), ("ab", "abx", "c", 8, BadSymbol("x")), ("ab", good, "c", 0, BadSymbol("c")),
                ("ab", good, good, 7, TooLarge("pieces", 6)), ("ab", good, good, 8, TooLarge("pieces", 6)),
                ("ab", "ab" * 4, "ab" * 4, 5, TooLarge("symbols", 24)), ("ab", "ab" * 4, "ab" * 4, 8, TooLarge("symbols", 24))]:
            for call in [lambda: bars(letters, text, other, many), lambda: judge_bars(letters, text, other, many, (), turned=True)]:
                with self.assertRaises(type(error)) as caught:
                    call()
                self.assertEqual(vars(caught.exception), vars(error))

    def test_an_exchange_is_found_only_behind_the_errors(self):
        with self.assertRaises(TooLarge) as caught:
            bars("ab", "ab", "ab", 7)
        self.assertEqual(caught.exception.what, "pieces")


if __name__ == "__main__":
    unittest.main()
