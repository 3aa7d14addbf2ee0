"""Point 93: twiceeach.ownmirrors."""

import itertools
import unittest

from tests.samples import book, search, thrown_books
from twiceeach.books import Book
from twiceeach.errors import BadLengths, BadNames, NoFilling
from twiceeach.gluing import Gluing
from twiceeach.ownmirrors import always_mirror, mirror_count


class MirrorCounts(unittest.TestCase):

    def test_small_books(self):
        asked = book("ab", "X = Y")
        self.assertEqual(mirror_count(asked, {"X": 5, "Y": 5}, ()), 32)
        self.assertEqual(mirror_count(asked, {"X": 5, "Y": 5}, ("X",)), 8)
        self.assertEqual(mirror_count(asked, {"X": 5, "Y": 5}, ("Y", "X")), 8)
        self.assertEqual(mirror_count(asked, {"X": 4, "Y": 4}, ("Y",)), 4)
        self.assertEqual(mirror_count(asked, {"X": 0, "Y": 0}, ("Y",)), 1)
        self.assertEqual(mirror_count(asked, {"X": 1, "Y": 2}, ("Y",)), 0)
        self.assertEqual(mirror_count(book("abc", "X = X"), {"X": 30}, ("X",)), 3 ** 15)

    def test_names_several_times(self):
        asked = book("ab", "X = X", "Y = Y")
        self.assertEqual(mirror_count(asked, {"X": 3, "Y": 4}, ("Y", "Y", "Y")), 8 * 4)
        self.assertEqual(mirror_count(asked, {"X": 3, "Y": 4}, ("Y", "X", "Y")), 4 * 4)

    def test_clashes(self):
        self.assertEqual(mirror_count(book("ab", "X = a b"), {"X": 2}, ()), 1)
        self.assertEqual(mirror_count(book("ab", "X = a b"), {"X": 2}, ("X",)), 0)
        self.assertEqual(mirror_count(book("ab", "X a = b X"), {"X": 2}, ("X",)), 0)
        self.assertEqual(mirror_count(book("ab", "X = X", "a = b"), {"X": 2}, ("X",)), 0)

    def test_books_without_equations_or_pieces(self):
        self.assertEqual(mirror_count(Book("ab"), {}, ()), 1)
        self.assertEqual(mirror_count(book("ab", "a b = a b"), {}, ()), 1)
        self.assertEqual(mirror_count(book("ab", "a = b"), {}, ()), 0)

    def test_they_are_the_listed_fillings(self):
        for sample in thrown_books(80, seed=17):
            found = search(sample, 4)
            for chosen in itertools.product(range(5), repeat=len(sample.pieces)):
                lengths = dict(zip(sample.pieces, chosen))
                if sum(chosen) <= 4:
                    with_lengths = [one for one in found if all(len(one[name]) == lengths[name] for name in one)]
                    self.assertEqual(mirror_count(sample, lengths, ()), Gluing(sample, lengths).many)
                    for many in range(len(sample.pieces) + 1):
                        for names in itertools.combinations(sample.pieces[::-1], many):
                            mirrors = [one for one in with_lengths if all(one[name] == one[name][::-1] for name in names)]
                            self.assertEqual(mirror_count(sample, lengths, names), len(mirrors))
                    for name in sample.pieces:
                        if with_lengths:
                            always = all(one[name] == one[name][::-1] for one in with_lengths)
                            self.assertIs(always_mirror(sample, lengths, name), always)
                        else:
                            with self.assertRaises(NoFilling):
                                always_mirror(sample, lengths, name)


class AlwaysMirrors(unittest.TestCase):

    def test_small_books(self):
        self.assertIs(always_mirror(book("ab", "X = X~"), {"X": 30}, "X"), True)
        self.assertIs(always_mirror(book("ab", "X = X"), {"X": 2}, "X"), False)
        self.assertIs(always_mirror(book("ab", "X = X"), {"X": 1}, "X"), True)
        self.assertIs(always_mirror(book("ab", "X = X"), {"X": 0}, "X"), True)
        self.assertIs(always_mirror(book("a", "X = X"), {"X": 9}, "X"), True)
        self.assertIs(always_mirror(book("ab", "X = a b a", "Y = Y"), {"X": 3, "Y": 2}, "X"), True)
        self.assertIs(always_mirror(book("ab", "X Y = Y X~"), {"X": 3, "Y": 1}, "Y"), True)

    def test_no_filling(self):
        for asked, lengths in [(book("ab", "X = Y"), {"X": 1, "Y": 2}), (book("ab", "X a = b X"), {"X": 1})]:
            with self.assertRaises(NoFilling):
                always_mirror(asked, lengths, "X")


class Errors(unittest.TestCase):

    def setUp(self):
        self.book = book("ab", "X a = b Y")

    def test_lengths_come_first(self):
        for lengths, name in [({}, "X"), ({"X": 1}, "Y"), ({"X": 31, "Y": -1}, "X"), ({"X": 1, "Y": -1}, "Y"),
                              ({"X": 1, "Y": 1, "Z": 1}, "Z")]:
            for call in (lambda: mirror_count(self.book, lengths, ("Q",)), lambda: always_mirror(self.book, lengths, "Q")):
                with self.subTest(lengths), self.assertRaises(BadLengths) as caught:
                    call()
                self.assertEqual(caught.exception.name, name)

    def test_names_come_next(self):
        for names, name in [(("Q",), "Q"), (("X", "Z", "A"), "Z"), (("X~",), "X~"), (("Y", ""), ""), (("a", "X"), "a"), (("X", "X", "#"), "#")]:
            for lengths in ({"X": 1, "Y": 1}, {"X": 1, "Y": 2}):
                with self.subTest(names), self.assertRaises(BadNames) as caught:
                    mirror_count(self.book, lengths, names)
                self.assertEqual(caught.exception.name, name)
        for name in ["Q", "X~", "", "a", "#"]:
            with self.subTest(name), self.assertRaises(BadNames) as caught:
                always_mirror(self.book, {"X": 1, "Y": 2}, name)
            self.assertEqual(caught.exception.name, name)

    def test_the_arguments_stay_as_they_are(self):
        lengths = {"Y": 1, "X": 1}
        mirror_count(self.book, lengths, ("X", "Y"))
        always_mirror(self.book, lengths, "X")
        self.assertEqual(list(lengths.items()), [("Y", 1), ("X", 1)])


if __name__ == "__main__":
    unittest.main()
