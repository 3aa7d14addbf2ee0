"""Points 13, 49, 52 and 53: twiceeach.listing."""

import unittest

from tests.samples import all_samples, book, search
from twiceeach.books import Book
from twiceeach.errors import Endless, TooLarge
from twiceeach.listing import all_fillings, fillings, least_filling, totals
from twiceeach.useful import verdict, walk_count


class Fillings(unittest.TestCase):

    def test_small_books(self):
        self.assertEqual(fillings(book("ab", "X a = a X"), most=2), [{"X": ""}, {"X": "a"}, {"X": "aa"}])
        self.assertEqual(fillings(book("ab", "X = X~"), most=3), [{"X": text} for text in
                                                                  ["", "a", "b", "aa", "bb", "aaa", "aba", "bab", "bbb"]])
        self.assertEqual(fillings(book("ab", "X = Y Y~"), most=4),
                         [{"X": "", "Y": ""}, {"X": "aa", "Y": "a"}, {"X": "bb", "Y": "b"}])
        self.assertEqual(fillings(book("ab", "X = X", "Y ="), most=1), [{"X": "", "Y": ""}, {"X": "a", "Y": ""}, {"X": "b", "Y": ""}])

    def test_the_order(self):
        found = fillings(book("ab", "Y X = X Y"), most=2)
        texts = [(one["X"], one["Y"]) for one in found]
        self.assertEqual(texts, [("", ""), ("", "a"), ("", "b"), ("a", ""), ("b", ""), ("", "aa"), ("", "ab"), ("", "ba"), ("", "bb"),
                                 ("a", "a"), ("aa", ""), ("ab", ""), ("b", "b"), ("ba", ""), ("bb", "")])

    def test_the_keys_are_in_ascending_order(self):
        for one in fillings(book("ab", "Z = B A"), most=2):
            self.assertEqual(list(one), ["A", "B", "Z"])
        self.assertEqual(list(least_filling(book("ab", "Z = B A"), most=2)), ["A", "B", "Z"])
        self.assertEqual(list(all_fillings(book("ab", "Z = a", "B A = b"))[0]), ["A", "B", "Z"])

    def test_books_without_pieces(self):
        self.assertEqual(fillings(Book("ab"), most=0), [{}])
        self.assertEqual(fillings(book("ab", "a = b"), most=12), [])
        self.assertEqual((least_filling(Book("ab"), most=0), least_filling(book("ab", "a = b"), most=12)), ({}, None))
        self.assertEqual((totals(Book("ab"), most=2), totals(book("ab", "a = b"), most=0)), ([1, 0, 0], [0]))
        self.assertEqual((all_fillings(Book("ab")), all_fillings(book("ab", "a = b"))), ([{}], []))

    def test_least_fillings(self):
        self.assertEqual(least_filling(book("ab", "X a = a X"), most=0), {"X": ""})
        self.assertEqual(least_filling(book("bc", "X b Y = Y c Z", "X Z ="), most=12), None)
        self.assertEqual(least_filling(book("ab", "X = a Y"), most=1), {"X": "a", "Y": ""})
        self.assertEqual(least_filling(book("ab", "X = a Y"), most=0), None)
        self.assertEqual(least_filling(book("ab", "Y X = a b"), most=12), {"X": "", "Y": "ab"})
        self.assertEqual(least_filling(book("bc", "Y c X = X b Y"), most=12), None)
        self.assertEqual(least_filling(book("bcd", "X c = c Y", "X Z = Y Z"), most=12), {"X": "", "Y": "", "Z": ""})
        self.assertEqual(least_filling(book("ab", "X a b = b a X"), most=12), {"X": "b"})

    def test_totals(self):
        self.assertEqual(totals(book("ab", "X a = a X"), most=4), [1, 1, 1, 1, 1])
        self.assertEqual(totals(book("abc", "X = X"), most=12), [3 ** size for size in range(13)])
        self.assertEqual(totals(book("abc", "X = X~"), most=5), [1, 3, 3, 9, 9, 27])
        self.assertEqual(totals(book("ab", "X = Y"), most=6), [1, 0, 2, 0, 4, 0, 8])
        self.assertEqual(totals(book("ab", "X Y = a b a"), most=5), [0, 0, 0, 4, 0, 0])
        self.assertEqual(totals(book("ab", "X = Y Y~"), most=4), [1, 0, 0, 2, 0])

    def test_the_bound(self):
        asked = book("a", "X = X")
        self.assertEqual(len(fillings(asked, most=12)), 13)
        self.assertEqual(least_filling(asked, most=12), {"X": ""})
        self.assertEqual(totals(asked, most=12), [1] * 13)
        for function in [fillings, least_filling, totals]:
            for most in [13, 40]:
                with self.subTest(function.__name__), self.assertRaises(TooLarge) as caught:
                    function(asked, most=most)
                self.assertEqual((caught.exception.what, caught.exception.limit), ("most", 12))

    def test_against_plain_search(self):
        for sample in all_samples():
            most = 6 if len(sample.pieces) < 3 else 5
            found = search(sample, most)
            self.assertEqual(fillings(sample, most=most), found)
            self.assertEqual(least_filling(sample, most=most), found[0] if found else None)
            sizes = [sum(map(len, one.values())) for one in found]
            self.assertEqual(totals(sample, most=most), [sizes.count(size) for size in range(most + 1)])

    def test_answers_are_new(self):
        asked = book("ab", "X = a")
        fillings(asked, most=1)[0]["X"] = "b"
        fillings(asked, most=1).clear()
        least_filling(asked, most=1)["X"] = "b"
        all_fillings(asked)[0].clear()
        totals(asked, most=1).append(5)
        self.assertEqual((fillings(asked, most=1), least_filling(asked, most=1), all_fillings(asked), totals(asked, most=1)),
                         ([{"X": "a"}], {"X": "a"}, [{"X": "a"}], [0, 1]))


class AllFillings(unittest.TestCase):

    def test_small_books(self):
        self.assertEqual(all_fillings(book("ab", "X Y = a b a")), [{"X": "", "Y": "aba"}, {"X": "a", "Y": "ba"},
                                                                  {"X": "ab", "Y": "a"}, {"X": "aba", "Y": ""}])
        self.assertEqual(all_fillings(book("ab", "X =")), [{"X": ""}])
        self.assertEqual(all_fillings(book("ab", "X a = b X")), [])
        self.assertEqual(all_fillings(book("ab", "X = " + "a b " * 10)), [{"X": "ab" * 10}])

    def test_fillings_of_several_totals_are_in_order(self):
        asked = book("ab", "X Y = a b", "Z = X")
        self.assertEqual(all_fillings(asked), [{"X": "", "Y": "ab", "Z": ""}, {"X": "a", "Y": "b", "Z": "a"},
                                               {"X": "ab", "Y": "", "Z": "ab"}])

    def test_infinitely_many(self):
        for equations in [["X = X"], ["X = X~"], ["X a = a X"], ["X = Y"], ["X Y = X a"]]:
            with self.subTest(equations), self.assertRaises(Endless):
                all_fillings(book("ab", *equations))

    def test_against_the_verdict_the_count_and_plain_search(self):
        for sample in all_samples():
            if verdict(sample) == "endless":
                with self.assertRaises(Endless):
                    all_fillings(sample)
            else:
                found = all_fillings(sample)
                self.assertEqual(len(found), walk_count(sample))
                self.assertEqual([one for one in found if sum(map(len, one.values())) <= 5], search(sample, 5))
                for one in found:
                    self.assertEqual(list(one), list(sample.pieces))


if __name__ == "__main__":
    unittest.main()
