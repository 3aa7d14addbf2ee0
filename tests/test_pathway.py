"""Points 63 and 64: twiceeach.pathway."""

import itertools
import unittest

from tests.samples import all_samples, book, search, thrown_books
from twiceeach.books import Book
from twiceeach.errors import BadLengths
from twiceeach.following import freed_in, stations
from twiceeach.forms import form_of
from twiceeach.gluing import Gluing
from twiceeach.letting import is_even
from twiceeach.papers import judge_walk
from twiceeach.pathway import lengths_walk, rest_places
from twiceeach.walks import walk_of


class Walks(unittest.TestCase):

    def test_small_books(self):
        commute = book("ab", "X Y = Y X")
        self.assertEqual(lengths_walk(commute, {"X": 2, "Y": 4}), (((), (("starts", "Y", "X"), ("is", "X", "Y"))), {"Y": ("any", 2)}))
        self.assertEqual(lengths_walk(commute, {"X": 3, "Y": 3}), (((), (("is", "X", "Y"),)), {"Y": ("any", 3)}))
        self.assertEqual(lengths_walk(commute, {"X": 0, "Y": 3}), ((("X",), ()), {"Y": ("any", 3)}))
        self.assertEqual(lengths_walk(commute, {"X": 0, "Y": 0}), ((("X", "Y"), ()), {}))

    def test_letters_have_the_length_1(self):
        self.assertEqual(lengths_walk(book("ab", "X a = a X"), {"X": 2}), (((), (("starts", "X", "a"), ("is", "X", "a"))), {}))
        self.assertEqual(lengths_walk(book("ab", "a X = X a"), {"X": 1}), (((), (("is", "X", "a"),)), {}))

    def test_turned_pieces(self):
        asked = book("ab", "X = Y~ a")
        self.assertEqual(lengths_walk(asked, {"X": 3, "Y": 2}), (((), (("starts", "X", "Y~"), ("is", "X", "a"))), {"Y": ("any", 2)}))
        asked = book("ab", "X~ = a Y")
        self.assertEqual(lengths_walk(asked, {"X": 3, "Y": 2}), (((), (("starts", "X~", "a"), ("is", "X~", "Y"))), {"Y": ("any", 2)}))

    def test_own_mirrors(self):
        asked = book("ab", "X = X~")
        self.assertEqual(lengths_walk(asked, {"X": 5}), (((), ()), {"X": ("mirror", 5)}))
        asked = book("ab", "X Y = Y X~")
        self.assertEqual(lengths_walk(asked, {"X": 1, "Y": 3})[1], {"Y": ("mirror", 1)})

    def test_no_filling_with_the_lengths(self):
        self.assertIsNone(lengths_walk(book("ab", "X a = b X"), {"X": 7}))
        self.assertIsNone(lengths_walk(book("ab", "X a = a b Y"), {"X": 1, "Y": 0}))
        self.assertIsNone(lengths_walk(book("ab", "X Y = a b a"), {"X": 2, "Y": 2}))
        self.assertIsNone(lengths_walk(book("ab", "X ="), {"X": 1}))
        self.assertEqual(lengths_walk(book("ab", "X ="), {"X": 0}), ((("X",), ()), {}))

    def test_uneven_lengths(self):
        self.assertIsNone(lengths_walk(book("ab", "X = Y"), {"X": 30, "Y": 29}))
        self.assertIsNone(lengths_walk(book("ab", "X X = a"), {"X": 1}))
        self.assertIsNone(lengths_walk(book("ab", "X Y = X"), {"X": 0, "Y": 1}))

    def test_the_greatest_lengths(self):
        walk, rests = lengths_walk(book("ab", "X Y = Y X"), {"X": 30, "Y": 29})
        self.assertEqual((len(walk[1]), rests), (30, {"Y": ("any", 1)}))
        walk, rests = lengths_walk(book("ab", "X = X"), {"X": 30})
        self.assertEqual((walk, rests), (((), ()), {"X": ("any", 30)}))

    def test_books_without_equations_or_pieces(self):
        self.assertEqual(lengths_walk(Book("ab"), {}), (((), ()), {}))
        self.assertEqual(lengths_walk(book("ab", "a b = a b"), {}), (((), ()), {}))
        self.assertIsNone(lengths_walk(book("ab", "a = b"), {}))

    def test_the_keys_of_the_rests_are_in_ascending_order(self):
        found = lengths_walk(book("ab", "Z B1 A = Z~ B1 A"), {"A": 2, "B1": 1, "Z": 3})
        self.assertEqual(list(found[1].items()), [("A", ("any", 2)), ("B1", ("any", 1)), ("Z", ("mirror", 3))])

    def test_bad_lengths(self):
        asked = book("ab", "X a = Y")
        for lengths, name in [({}, "X"), ({"X": 1}, "Y"), ({"X": -1, "Y": 0}, "X"), ({"X": 0, "Y": 31}, "Y"),
                              ({"X": 31, "Y": -1}, "X"), ({"X": 0, "Y": 1, "Z": 0}, "Z"), ({"A": 0, "X": -1, "Y": 1}, "A")]:
            with self.subTest(lengths), self.assertRaises(BadLengths) as caught:
                lengths_walk(asked, lengths)
            self.assertEqual(caught.exception.name, name)

    def test_changing_an_answer_has_no_effect(self):
        asked, lengths = book("ab", "X = X"), {"X": 2}
        lengths_walk(asked, lengths)[1]["X"] = ("any", 9)
        self.assertEqual(lengths_walk(asked, lengths), (((), ()), {"X": ("any", 2)}))
        self.assertEqual(lengths, {"X": 2})

    def test_each_filling_with_the_lengths_belongs_to_the_walk(self):
        for sample in all_samples():
            for filling in search(sample, 4):
                walk, texts = walk_of(sample, filling)
                found, rests = lengths_walk(sample, {name: len(text) for name, text in filling.items()})
                self.assertEqual(found, walk)
                self.assertEqual({name: length for name, (_, length) in rests.items()},
                                 {name: len(text) for name, text in texts.items()})

    def test_the_kinds_are_those_of_the_freed_pieces(self):
        for sample in thrown_books(60, seed=31):
            for chosen in itertools.product(range(4), repeat=len(sample.pieces)):
                lengths = dict(zip(sample.pieces, chosen))
                found = lengths_walk(sample, lengths)
                if found is not None:
                    walk, rests = found
                    self.assertIs(judge_walk(sample, walk), True)
                    self.assertEqual(dict(freed_in(stations(sample, walk))), {name: kind for name, (kind, _) in rests.items()})
                    filling = form_of(sample, walk).fill({name: "a" * length for name, (_, length) in rests.items()})
                    self.assertEqual({name: len(text) for name, text in filling.items()}, lengths)


class FreePlaces(unittest.TestCase):

    def test_kinds_and_lengths(self):
        self.assertEqual(rest_places({}), 0)
        self.assertEqual(rest_places({"X": ("any", 5)}), 5)
        self.assertEqual(rest_places({"X": ("mirror", 5)}), 3)
        self.assertEqual(rest_places({"X": ("mirror", 4), "Y": ("any", 1), "Z": ("mirror", 1)}), 4)

    def test_as_many_as_classes_without_a_letter(self):
        for sample in all_samples():
            for chosen in itertools.product(range(5), repeat=len(sample.pieces)):
                lengths = dict(zip(sample.pieces, chosen))
                gluing, found = Gluing(sample, lengths), lengths_walk(sample, lengths)
                self.assertIs(found is None, gluing.many == 0)
                if found is None:
                    self.assertTrue(gluing.clash or not is_even(sample, lengths))
                else:
                    self.assertEqual(rest_places(found[1]), len(gluing.free_lots))
                    self.assertEqual(len(sample.letters) ** rest_places(found[1]), gluing.many)


if __name__ == "__main__":
    unittest.main()
