"""Points 108, 110 and 111: twiceeach.leading."""

import functools
import itertools
import unittest

from tests.samples import texts_up_to
from tests.test_exchanges import all_exchanges
from tests.test_placemaps import cut_text
from twiceeach.books import Book
from twiceeach.errors import BadExchange, BadLetters, BadSymbol, TooLarge
from twiceeach.exchanges import Exchange
from twiceeach.gluing import Gluing
from twiceeach.leading import leads, leads_book, leaves_book, left_count
from twiceeach.listing import fillings
from twiceeach.web import Web

PAIRS = [("", ""), ("a", "a"), ("a", "b"), ("ab", "ba"), ("aab", "aba"), ("abab", "bbaa"), ("abab", "abab"), ("aabb", "abab"),
         ("aaa", "aaa"), ("abba", "baab"), ("abb", "aab"), ("ab", "aba"), ("", "a"), ("aabab", "babaa"), ("abbab", "bbaab")]


@functools.cache
def plain_cuttings(size, many):
    """All tuples of so many lengths, each at least 1, with the sum."""
    return [lengths for lengths in itertools.product(range(1, size + 1), repeat=many) if sum(lengths) == size]


def plain_leads(exchange, text, other):
    """The cuttings, by the words of point 111."""
    cuttings = plain_cuttings(len(text), len(exchange.blocks))
    return [lengths for lengths in cuttings if exchange(cut_text(text, lengths)) == other]


class BooksOfExchanges(unittest.TestCase):

    def test_the_leaves_book(self):
        self.assertEqual(leaves_book("ab", Exchange((2, -1))), Book("ab", [(["P1", "P2"], ["P2", "P1~"])]))
        self.assertEqual(leaves_book("abc", Exchange((-3, 1, 2))), Book("abc", [(["P1", "P2", "P3"], ["P3~", "P1", "P2"])]))
        self.assertEqual(leaves_book("a", Exchange(())), Book("a", [((), ())]))

    def test_the_leads_book(self):
        self.assertEqual(leads_book("ab", Exchange((2, -1)), "ab", "ba"),
                         Book("ab", [(["P1", "P2"], ["a", "b"]), (["P2", "P1~"], ["b", "a"])]))
        self.assertEqual(leads_book("ab", Exchange(()), "", "a"), Book("ab", [((), ()), ((), ("a",))]))

    def test_six_and_seven_pieces(self):
        six, seven = Exchange((6, 5, 4, 3, -2, -1)), Exchange((7, 6, 5, 4, 3, 2, 1))
        self.assertEqual(leaves_book("ab", six).pieces, ("P1", "P2", "P3", "P4", "P5", "P6"))
        self.assertEqual(len(leads_book("ab", six, "aba", "baa").pieces), 6)
        for call in [lambda: leaves_book("ab", seven), lambda: leads_book("ab", seven, "ab", "ba")]:
            with self.assertRaises(TooLarge) as caught:
                call()
            self.assertEqual((caught.exception.what, caught.exception.limit), ("pieces", 6))

    def test_what_else_creating_the_book_raises(self):
        for letters in ["", "ba", "abcde", "a b", "A"]:
            with self.assertRaises(BadLetters) as caught:
                leaves_book(letters, Exchange((7, 6, 5, 4, 3, 2, 1)))
            self.assertEqual(caught.exception.letters, letters)
            with self.assertRaises(BadLetters):
                leads_book(letters, Exchange((1,)), "z", "z")
        with self.assertRaises(BadSymbol) as caught:
            leads_book("ab", Exchange((7, 6, 5, 4, 3, 2, 1)), "abx", "cab" * 9)
        self.assertEqual(caught.exception.symbol, "x")
        with self.assertRaises(BadSymbol) as caught:
            leads_book("ab", Exchange((1,)), "ab", "cd")
        self.assertEqual(caught.exception.symbol, "c")
        with self.assertRaises(TooLarge) as caught:
            leads_book("ab", Exchange.plain(7), "ababab", "babab")
        self.assertEqual((caught.exception.what, caught.exception.limit), ("symbols", 24))
        self.assertEqual(leads_book("ab", Exchange.plain(6), "ababab", "ababab").size, 24)


class TextsThatAreLeft(unittest.TestCase):

    def test_small_counts(self):
        self.assertEqual(left_count("ab", Exchange((2, 1)), (2, 4)), 4)
        self.assertEqual(left_count("ab", Exchange((-1,)), (5,)), 8)
        self.assertEqual(left_count("abc", Exchange((1, 2)), (1, 2)), 27)
        self.assertEqual(left_count("ab", Exchange(()), ()), 1)
        self.assertEqual(left_count("abcd", Exchange((2, 1)), (0, 0)), 1)
        self.assertEqual(left_count("abcd", Exchange((1,)), (30,)), 4 ** 30)

    def test_wrong_lengths(self):
        for lengths in [(1,), (1, 1, 1), (), (31, 1), (1, 31), (-1, 1), (1, -1)]:
            with self.subTest(lengths), self.assertRaises(BadExchange):
                left_count("ab", Exchange((2, 1)), lengths)

    def test_plain_search(self):
        for many in range(4):
            for exchange in all_exchanges(many):
                for lengths in itertools.product(range(3), repeat=many):
                    texts = [[text for text in texts_up_to("ab", 3) if len(text) == length] for length in lengths]
                    found = [chosen for chosen in itertools.product(*texts) if exchange(chosen) == "".join(chosen)]
                    self.assertEqual(left_count("ab", exchange, lengths), len(found))

    def test_the_fillings_of_the_leaves_book(self):
        for many in range(4):
            for exchange in all_exchanges(many):
                made = leaves_book("abc", exchange)
                for lengths in itertools.product([0, 1, 2, 5], repeat=many):
                    told = {f"P{at + 1}": length for at, length in enumerate(lengths)}
                    self.assertEqual(left_count("abc", exchange, lengths), Gluing(made, told).many)


class LeadingCuttings(unittest.TestCase):

    def test_small_texts(self):
        self.assertEqual(leads(Exchange((3, 2, 1)), "abab", "bbaa"), [(1, 2, 1)])
        self.assertEqual(leads(Exchange((2, 1)), "aab", "baa"), [(2, 1)])
        self.assertEqual(leads(Exchange((2, 1)), "aaa", "aaa"), [(1, 2), (2, 1)])
        self.assertEqual(leads(Exchange((2, 1)), "aab", "aab"), [])
        self.assertEqual(leads(Exchange((-1,)), "aab", "baa"), [(3,)])
        self.assertEqual(leads(Exchange((1, 2)), "ab", "ab"), [(1, 1)])
        self.assertEqual(leads(Exchange((1, 2, 3)), "ab", "ab"), [])

    def test_no_blocks_and_empty_texts(self):
        self.assertEqual(leads(Exchange(()), "", ""), [()])
        self.assertEqual(leads(Exchange(()), "a", "a"), [])
        self.assertEqual(leads(Exchange(()), "", "a"), [])
        self.assertEqual(leads(Exchange((1,)), "", ""), [])
        self.assertEqual(leads(Exchange((2, -1)), "", ""), [])

    def test_texts_of_different_lengths(self):
        for text, other in [("a", "aa"), ("aa", "a"), ("", "a"), ("abab", "aba")]:
            self.assertEqual(leads(Exchange((1,)), text, other), [])
            self.assertEqual(leads(Exchange((2, 1)), text, other), [])

    def test_many_pieces_and_long_texts(self):
        self.assertEqual(leads(Exchange(range(12, 0, -1)), "abcdefghijkl", "lkjihgfedcba"), [(1,) * 12])
        self.assertEqual(leads(Exchange((2, 1)), "a" * 20 + "b" * 20, "b" * 20 + "a" * 20), [(20, 20)])
        self.assertEqual(leads(Exchange((-12, *range(1, 12))), "a" * 11 + "zy", "yz" + "a" * 11), [(1,) * 11 + (2,)])

    def test_a_new_list_at_each_call(self):
        leads(Exchange((1,)), "a", "a").clear()
        self.assertEqual(leads(Exchange((1,)), "a", "a"), [(1,)])

    def test_all_cuttings(self):
        for many in range(4):
            for exchange, (text, other) in itertools.product(all_exchanges(many), PAIRS):
                self.assertEqual(leads(exchange, text, other), plain_leads(exchange, text, other))

    def test_they_are_the_lengths_of_the_fillings_without_empty_texts(self):
        for many in range(4):
            for exchange, (text, other) in itertools.product(all_exchanges(many), PAIRS):
                made = leads_book("ab", exchange, text, other)
                whole = [one for one in fillings(made, most=12) if "" not in one.values()]
                found = sorted(tuple(len(one[f"P{at + 1}"]) for at in range(many)) for one in whole)
                self.assertEqual(leads(exchange, text, other), found)
                self.assertIs(Web(made, lots=((),)).solvable, found != [])


if __name__ == "__main__":
    unittest.main()
