"""Points 65 and 66: twiceeach.cutting."""

import unittest

from tests.samples import all_samples, book, search, texts_up_to
from twiceeach.books import Book
from twiceeach.cutting import cut_filling, cut_piece, mended_filling
from twiceeach.errors import BadNames, TooLarge
from twiceeach.fillings import fills


class CuttingBooks(unittest.TestCase):

    def test_straight_and_turned_standings(self):
        made, first, second = cut_piece(book("ab", "X a = b X~"), "X")
        self.assertEqual((made, first, second), (book("ab", "N0 N1 a = b N1~ N0~"), "N0", "N1"))

    def test_the_other_pieces_and_the_alphabet_stay(self):
        made, first, second = cut_piece(book("abc", "Y X~ = a", "= Z Y~"), "Y")
        self.assertEqual((made, first, second), (book("abc", "N0 N1 X~ = a", "= Z N1~ N0~"), "N0", "N1"))
        self.assertEqual((made.letters, made.pieces), ("abc", ("N0", "N1", "X", "Z")))

    def test_the_names_are_fresh_for_all_pieces_of_the_book(self):
        self.assertEqual(cut_piece(book("ab", "N0 X = N2"), "X"), (book("ab", "N0 N1 N3 = N2"), "N1", "N3"))
        self.assertEqual(cut_piece(book("ab", "N0 = N1~"), "N0"), (book("ab", "N2 N3 = N1~"), "N2", "N3"))

    def test_names_that_the_book_does_not_have(self):
        for name in ["Y", "X~", "a", "", "#", "N0", "x"]:
            with self.subTest(name), self.assertRaises(BadNames) as caught:
                cut_piece(book("ab", "X a = b X~"), name)
            self.assertEqual(caught.exception.name, name)
        with self.assertRaises(BadNames) as caught:
            cut_piece(Book("ab"), "X")
        self.assertEqual(caught.exception.name, "X")

    def test_cut_books_beyond_the_limits(self):
        row = ["a"] * 23
        self.assertEqual(cut_piece(Book("ab", [(["X"], row[:22])]), "X")[0].size, 24)
        for asked in [Book("ab", [(["X"], row)]), Book("ab", [(["X"], [*row[:21], "X", "Y"])])]:
            with self.assertRaises(TooLarge) as caught:
                cut_piece(asked, "X")
            self.assertEqual((caught.exception.what, caught.exception.limit), ("symbols", 24))
        six = book("ab", "A B C = D E F")
        with self.assertRaises(TooLarge) as caught:
            cut_piece(six, "D")
        self.assertEqual((caught.exception.what, caught.exception.limit), ("pieces", 6))
        self.assertEqual(cut_piece(book("ab", "A B C = D E"), "D")[0], book("ab", "A B C = N0 N1 E"))

    def test_symbols_are_counted_ahead_of_pieces_and_names_ahead_of_both(self):
        full = Book("ab", [(["A", "B", "C", "D", "E", "F"], ["a"] * 18)])
        with self.assertRaises(TooLarge) as caught:
            cut_piece(full, "A")
        self.assertEqual(caught.exception.what, "symbols")
        with self.assertRaises(BadNames):
            cut_piece(full, "G")


class CuttingFillings(unittest.TestCase):

    def test_each_index(self):
        filling = {"X": "aab", "Y": "b"}
        self.assertEqual(cut_filling(filling, "X", "N0", "N1", 0), {"N0": "", "N1": "aab", "Y": "b"})
        self.assertEqual(cut_filling(filling, "X", "N0", "N1", 2), {"N0": "aa", "N1": "b", "Y": "b"})
        self.assertEqual(cut_filling(filling, "X", "N0", "N1", 3), {"N0": "aab", "N1": "", "Y": "b"})
        self.assertEqual(cut_filling({"X": ""}, "X", "N0", "N1", 0), {"N0": "", "N1": ""})
        self.assertEqual(filling, {"X": "aab", "Y": "b"})

    def test_keys_are_in_ascending_order(self):
        self.assertEqual(list(cut_filling({"X": "ab", "M": "", "A": "a"}, "M", "Z", "B", 0)), ["A", "B", "X", "Z"])
        self.assertEqual(list(mended_filling({"Z": "ab", "Y": "", "B": "a"}, "X", "Z", "B")), ["X", "Y"])

    def test_mending(self):
        filling = {"N0": "ab", "N1": "b", "Y": "a"}
        self.assertEqual(mended_filling(filling, "X", "N0", "N1"), {"X": "abb", "Y": "a"})
        self.assertEqual(mended_filling(filling, "X", "N1", "N0"), {"X": "bab", "Y": "a"})
        self.assertEqual(mended_filling({"N0": "", "N1": ""}, "X", "N0", "N1"), {"X": ""})
        self.assertEqual(filling, {"N0": "ab", "N1": "b", "Y": "a"})

    def test_mending_undoes_cutting(self):
        for text in texts_up_to("ab", 4):
            for at in range(len(text) + 1):
                made = cut_filling({"X": text, "A": "b"}, "X", "N0", "N1", at)
                self.assertEqual(len(made["N0"]), at)
                self.assertEqual(mended_filling(made, "X", "N0", "N1"), {"A": "b", "X": text})

    def test_a_filling_fills_a_book_if_and_only_if_the_cut_one_fills_the_cut_book(self):
        for sample in all_samples():
            for name in sample.pieces:
                made, first, second = cut_piece(sample, name)
                cut = [cut_filling(one, name, first, second, at) for one in search(sample, 3) for at in range(len(one[name]) + 1)]
                self.assertTrue(all(fills(made, one) for one in cut))
                self.assertEqual(len(cut), len(search(made, 3)))
                for one in search(made, 3):
                    self.assertIs(fills(sample, mended_filling(one, name, first, second)), True)
                    self.assertIn(one, cut)


if __name__ == "__main__":
    unittest.main()
