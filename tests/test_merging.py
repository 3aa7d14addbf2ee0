"""Point 28: twiceeach.merging."""

import unittest

from tests.samples import all_samples, book, search
from twiceeach.books import Book
from twiceeach.errors import BadLetters, BadSymbol, NoSuchEquation, StandsThrice, TooLarge
from twiceeach.merging import components, extended, merged, shortened


class Merging(unittest.TestCase):

    def test_merged_books(self):
        one, other = book("ab", "X = a", "Y = b"), book("ab", "X = Z")
        self.assertEqual(merged(one, other), book("ab", "X = a", "Y = b", "X = Z"))
        self.assertEqual(merged(other, one), book("ab", "X = Z", "X = a", "Y = b"))
        self.assertEqual(merged(one), one)
        self.assertEqual(merged(Book("ab"), one, Book("ab")), one)
        self.assertEqual(merged(Book("ab"), Book("ab")), Book("ab"))

    def test_other_alphabets(self):
        for books, letters in [(("ab", "abc", "a"), "abc"), (("ab", "ab", "a"), "a"), (("b", "a", "b"), "a")]:
            with self.subTest(books), self.assertRaises(BadLetters) as caught:
                merged(*[Book(one) for one in books])
            self.assertEqual(caught.exception.letters, letters)

    def test_what_creating_the_book_raises(self):
        with self.assertRaises(StandsThrice) as caught:
            merged(book("a", "X = X"), book("a", "Y = X"))
        self.assertEqual(caught.exception.name, "X")
        with self.assertRaises(TooLarge) as caught:
            merged(*[book("a", "=")] * 5)
        self.assertEqual((caught.exception.what, caught.exception.limit), ("equations", 4))
        with self.assertRaises(TooLarge) as caught:
            merged(book("a", "A B C = D"), book("a", "E F = G"))
        self.assertEqual((caught.exception.what, caught.exception.limit), ("pieces", 6))

    def test_the_alphabet_is_asked_first(self):
        with self.assertRaises(BadLetters):
            merged(*[book("ab", "=")] * 5, Book("a"))

    def test_extended_books(self):
        asked = book("ab", "X = a")
        self.assertEqual(extended(asked, ("X",), ("b", "Y")), book("ab", "X = a", "X = b Y"))
        self.assertEqual(extended(asked, [], ["Y"]), book("ab", "X = a", "= Y"))
        self.assertEqual(extended(Book("ab"), (), ()), book("ab", "="))
        self.assertEqual(asked, book("ab", "X = a"))

    def test_extended_books_that_cannot_be(self):
        for left, right, error in [(["X"], ["X"], StandsThrice), (["c"], [], BadSymbol), (["#"], ["#"], BadSymbol),
                                   (["a"] * 23, [], TooLarge)]:
            with self.subTest((left, right)), self.assertRaises(error):
                extended(book("ab", "X = a"), left, right)
        with self.assertRaises(TooLarge) as caught:
            extended(book("ab", "=", "=", "=", "="), ["c"], ())
        self.assertEqual((caught.exception.what, caught.exception.limit), ("equations", 4))

    def test_extending_copies_the_rows(self):
        left = ["X"]
        made = extended(Book("ab"), left, [])
        self.assertEqual(left, ["X"])
        left.append("Y")
        self.assertEqual(made, book("ab", "X ="))

    def test_shortened_books(self):
        asked = book("ab", "X = a", "Y = b", "X = Z")
        self.assertEqual(shortened(asked, 0), book("ab", "Y = b", "X = Z"))
        self.assertEqual(shortened(asked, 1), book("ab", "X = a", "X = Z"))
        self.assertEqual(shortened(asked, 2), book("ab", "X = a", "Y = b"))
        self.assertEqual(shortened(asked, 1).pieces, ("X", "Z"))
        self.assertEqual(shortened(book("ab", "="), 0), Book("ab"))
        self.assertEqual(len(asked), 3)

    def test_equations_that_are_not_there(self):
        for number in [-1, 3, 4, -3, 100, -100]:
            with self.subTest(number), self.assertRaises(NoSuchEquation) as caught:
                shortened(book("ab", "X = a", "Y = b", "X = Z"), number)
            self.assertEqual(caught.exception.number, number)
        with self.assertRaises(NoSuchEquation):
            shortened(Book("ab"), 0)


class Components(unittest.TestCase):

    def test_components(self):
        asked = book("ab", "X = a", "Y = b", "Y~ = X~", "Z = Z")
        self.assertEqual(components(asked), (book("ab", "X = a", "Y = b", "Y~ = X~"), book("ab", "Z = Z")))

    def test_equations_that_others_lead_to(self):
        asked = book("a", "A = B", "C = D", "E = A", "D~ = E")
        self.assertEqual(components(asked), (asked,))
        asked = book("a", "A = B", "C = D", "E = F", "D = B")
        self.assertEqual(components(asked), (book("a", "A = B", "C = D", "D = B"), book("a", "E = F")))

    def test_the_order_is_that_of_the_first_equations(self):
        asked = book("a", "B =", "A =", "C A =", "B~ =")
        self.assertEqual(components(asked), (book("a", "B =", "B~ ="), book("a", "A =", "C A =")))

    def test_equations_without_pieces_are_components(self):
        asked = book("ab", "a = a", "X =", "a = a", "= X")
        self.assertEqual(components(asked), (book("ab", "a = a"), book("ab", "X =", "= X"), book("ab", "a = a")))
        self.assertEqual(components(book("ab", "=")), (book("ab", "="),))

    def test_a_book_without_equations_has_none(self):
        self.assertEqual(components(Book("ab")), ())

    def test_a_filling_fills_if_its_parts_fill_the_components(self):
        for sample in all_samples():
            parts = components(sample)
            found = [{}]
            for part in parts:
                found = [{**one, **other} for one in found for other in search(part, 3)]
            found = [one for one in found if sum(map(len, one.values())) <= 3]
            for filling in search(sample, 3):
                self.assertIn(filling, found)
            self.assertEqual(len(found), len(search(sample, 3)))
            self.assertEqual(sum(len(part) for part in parts), len(sample))


if __name__ == "__main__":
    unittest.main()
