"""Points 123 to 125: twiceeach.solutions."""

import itertools
import unittest

from tests.samples import book, order, search
from tests.test_shapecounts import ROLES
from tests.test_shapes import PATTERNS, exchanged
from twiceeach.books import Book
from twiceeach.errors import NoShape, TooLarge
from twiceeach.fillings import is_own_mirror
from twiceeach.listing import fillings
from twiceeach.shapecounts import shape_count
from twiceeach.shapes import shape_of
from twiceeach.solutions import solutions


class Solutions(unittest.TestCase):

    def test_small_books(self):
        self.assertEqual(solutions(book("ab", "X = Y~"), most=2), [{"X": "", "Y": ""}, {"X": "a", "Y": "a"}, {"X": "b", "Y": "b"}])
        self.assertEqual(solutions(book("ab", "Z = Z~"), most=2), [{"Z": ""}, {"Z": "a"}, {"Z": "b"}, {"Z": "aa"}, {"Z": "bb"}])
        self.assertEqual(solutions(book("a", "X Y = Y X"), most=1), [{"X": "", "Y": ""}, {"X": "", "Y": "a"}, {"X": "a", "Y": ""}])
        self.assertIn({"X": "ab", "Y": "ba", "Z": "aba"}, solutions(book("ab", "X Z = Z Y"), most=7))
        self.assertIn({"X": "aab", "Z": "aabaa"}, solutions(book("ab", "X Z = Z X~"), most=8))

    def test_the_listed_fillings(self):
        for pattern in PATTERNS.values():
            for written in (pattern, exchanged(pattern)):
                made = book("ab", written)
                self.assertEqual(solutions(made, most=7), fillings(made, most=7))

    def test_plain_search(self):
        for pattern in PATTERNS.values():
            made = book("ab", pattern)
            self.assertEqual(solutions(made, most=5), search(made, 5))

    def test_names_whose_order_is_not_that_of_the_roles(self):
        for written in ["Z = A~", "Y X = X Y", "Z A = A Y", "Q1 C = C A", "Z B = B Z~", "Z Y = Y~ Z~", "Z A = Z~ A~", "Z Z = A A", "Z Z = A A~"]:
            made = book("ab", written)
            found = solutions(made, most=6)
            self.assertEqual(found, search(made, 6))
            self.assertEqual(sorted(found, key=order), found)
            self.assertTrue(all(list(one) == list(made.pieces) for one in found))

    def test_the_numbers_of_solutions(self):
        for word, pattern in PATTERNS.items():
            found = solutions(book("ab", pattern), most=9)
            counts = {}
            for one in found:
                lengths = tuple(len(one[role]) for role in ROLES[word])
                counts[lengths] = counts.get(lengths, 0) + 1
            for lengths in itertools.product(range(10), repeat=len(ROLES[word])):
                if sum(lengths) <= 9:
                    self.assertEqual(counts.get(lengths, 0), shape_count("ab", word, lengths))

    def test_the_texts_of_lead(self):
        for one in solutions(book("ab", "A C = C B"), most=8):
            if one["A"]:
                rest = len(one["C"]) % len(one["A"])
                u, v = one["A"][:rest], one["A"][rest:]
                self.assertEqual((one["B"], one["C"]), (v + u, (u + v) * (len(one["C"]) // len(one["A"])) + u))

    def test_the_texts_of_leadmirror(self):
        for one in solutions(book("ab", "A C = C A~"), most=9):
            if one["A"]:
                rest = len(one["C"]) % len(one["A"])
                u, v = one["A"][:rest], one["A"][rest:]
                self.assertTrue(is_own_mirror(u) and is_own_mirror(v))
                self.assertEqual(one["C"], (u + v) * (len(one["C"]) // len(one["A"])) + u)

    def test_most_0_12_and_13(self):
        made = book("ab", "X X = Y Y~")
        self.assertEqual(solutions(made, most=0), [{"X": "", "Y": ""}])
        self.assertEqual(solutions(made, most=12), fillings(made, most=12))
        for asked in [made, book("ab", "X = a"), Book("ab")]:
            with self.assertRaises(TooLarge) as caught:
                solutions(asked, most=13)
            self.assertEqual((caught.exception.what, caught.exception.limit), ("most", 12))

    def test_books_without_a_small_shape(self):
        for asked in [Book("ab"), book("ab", "X = a"), book("ab", "X = Y", "Y = X"), book("ab", "X Y = Y~ X"), book("ab", "=")]:
            self.assertIsNone(shape_of(asked))
            for most in (0, 12):
                with self.assertRaises(NoShape):
                    solutions(asked, most=most)

    def test_changing_an_answer_has_no_effect(self):
        made = book("ab", "X = Y")
        solutions(made, most=2)[1]["X"] = "b"
        solutions(made, most=2).clear()
        self.assertEqual(solutions(made, most=2), [{"X": "", "Y": ""}, {"X": "a", "Y": "a"}, {"X": "b", "Y": "b"}])


if __name__ == "__main__":
    unittest.main()
