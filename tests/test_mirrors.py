"""Points 91 and 92: twiceeach.mirrors."""

import itertools
import unittest

from tests.samples import all_samples, book, order, search
from tests.test_machines import even_machine
from twiceeach.books import Book
from twiceeach.errors import BadNames
from twiceeach.fillings import mirrored
from twiceeach.gluing import Gluing
from twiceeach.letting import is_even, let_lengths
from twiceeach.listing import fillings, totals
from twiceeach.machines import Machine
from twiceeach.makers import beginner, ender
from twiceeach.mirrors import backward_book, straightened_book, swapped_book, toggled_book, turned_book
from twiceeach.names import canonical, renamed
from twiceeach.tables import Table
from twiceeach.useful import verdict


class MirroredBooks(unittest.TestCase):

    def setUp(self):
        self.book = book("abc", "X a Y~ = b", "= Y X c")

    def test_turned_books(self):
        self.assertEqual(turned_book(self.book), book("abc", "Y a X~ = b", "= c X~ Y~"))

    def test_swapped_books(self):
        self.assertEqual(swapped_book(self.book), book("abc", "b = X a Y~", "Y X c ="))

    def test_backward_books(self):
        self.assertEqual(backward_book(self.book), book("abc", "Y~ a X = b", "= c X Y"))

    def test_books_without_equations_or_pieces(self):
        for change in (turned_book, swapped_book, backward_book):
            self.assertEqual(change(Book("abc")), Book("abc"))
        self.assertEqual(turned_book(book("ab", "a b b = a")), book("ab", "b b a = a"))
        self.assertEqual(swapped_book(book("ab", "a b b = a")), book("ab", "a = a b b"))
        self.assertEqual(backward_book(book("ab", "a b b = a")), book("ab", "b b a = a"))

    def test_twice_is_the_book_itself(self):
        for sample in all_samples():
            for change in (turned_book, swapped_book, backward_book):
                self.assertEqual(change(change(sample)), sample)

    def test_which_fillings_fill_them(self):
        for sample in all_samples():
            found = search(sample, 4)
            self.assertEqual(search(turned_book(sample), 4), found)
            self.assertEqual(search(swapped_book(sample), 4), found)
            behind = [{name: text[::-1] for name, text in one.items()} for one in found]
            self.assertEqual(search(backward_book(sample), 4), sorted(behind, key=order))
            self.assertEqual(fillings(backward_book(sample), most=4), sorted([mirrored(one) for one in found], key=order))

    def test_lengths_vectors_and_the_verdict(self):
        for sample in all_samples():
            letters = sample.letters
            first, last = Table(sample, [beginner(letters, "a")]).vectors, Table(backward_book(sample), [ender(letters, "a")]).vectors
            self.assertEqual(Table(turned_book(sample), [beginner(letters, "a")]).vectors, first)
            self.assertEqual(len(last) == 0, len(first) == 0)
            machine = Machine(letters, [[1] * len(letters), [0] * len(letters)], [0])
            for change in (turned_book, swapped_book, backward_book):
                self.assertEqual(let_lengths(change(sample), most=5), let_lengths(sample, most=5))
                self.assertEqual(verdict(change(sample)), verdict(sample))
                self.assertEqual(Table(change(sample), [machine]).vectors, Table(sample, [machine]).vectors)


class ToggledBooks(unittest.TestCase):

    def test_toggling(self):
        asked = book("ab", "X a = Y X~", "Y~ = b")
        self.assertEqual(toggled_book(asked, "X"), book("ab", "X~ a = Y X", "Y~ = b"))
        self.assertEqual(toggled_book(asked, "Y"), book("ab", "X a = Y~ X~", "Y = b"))

    def test_strange_names(self):
        for name in ["Z", "X~", "a", "", "#", "XX", "b", "Xy"]:
            with self.subTest(name), self.assertRaises(BadNames) as caught:
                toggled_book(book("ab", "X a = Y X~"), name)
            self.assertEqual(caught.exception.name, name)
        with self.assertRaises(BadNames):
            toggled_book(Book("ab"), "X")

    def test_which_fillings_fill_them(self):
        for sample in all_samples():
            for name in sample.pieces:
                behind = [{**one, name: one[name][::-1]} for one in search(sample, 4)]
                self.assertEqual(search(toggled_book(sample, name), 4), sorted(behind, key=order))
                self.assertEqual(toggled_book(toggled_book(sample, name), name), sample)

    def test_toggling_is_renaming(self):
        for sample in all_samples():
            for name in sample.pieces:
                table = {one: one + "~" if one == name else one for one in sample.pieces}
                self.assertEqual(toggled_book(sample, name), renamed(sample, table))

    def test_told_lengths(self):
        for sample in all_samples():
            for name, chosen in itertools.product(sample.pieces, itertools.product(range(3), repeat=len(sample.pieces))):
                lengths = dict(zip(sample.pieces, chosen))
                self.assertIs(is_even(toggled_book(sample, name), lengths), is_even(sample, lengths))
                self.assertEqual(Gluing(toggled_book(sample, name), lengths).many, Gluing(sample, lengths).many)


class StraightenedBooks(unittest.TestCase):

    def test_straightening(self):
        made, names = straightened_book(book("ab", "X~ a = Y X", "Z~ Y~ = Z~"))
        self.assertEqual((made, names), (book("ab", "X a = Y X~", "Z Y~ = Z"), ("X", "Z")))
        self.assertEqual(straightened_book(book("ab", "X a = Y X~")), (book("ab", "X a = Y X~"), ()))

    def test_the_first_standing_may_be_on_the_right_or_in_a_later_equation(self):
        made, names = straightened_book(book("ab", "Z b = a Y~", "X~ = Z~", "Y = X"))
        self.assertEqual((made, names), (book("ab", "Z b = a Y", "X = Z~", "Y~ = X~"), ("X", "Y")))

    def test_names_are_in_ascending_order(self):
        self.assertEqual(straightened_book(book("ab", "Z~ B1~ = A~ B~"))[1], ("A", "B", "B1", "Z"))

    def test_books_without_equations_or_pieces(self):
        self.assertEqual(straightened_book(Book("ab")), (Book("ab"), ()))
        self.assertEqual(straightened_book(book("ab", "a = b")), (book("ab", "a = b"), ()))

    def test_first_standings_are_straight_and_toggling_leads_back(self):
        for sample in all_samples():
            made, names = straightened_book(sample)
            row = [symbol for left, right in made.equations for symbol in left + right]
            for name in made.pieces:
                self.assertEqual([symbol for symbol in row if symbol.rstrip("~") == name][0], name)
            table = canonical(sample)[1]
            self.assertEqual(names, tuple(name for name in sample.pieces if table[name].endswith("~")))
            for name in names:
                made = toggled_book(made, name)
            self.assertEqual(made, sample)
            self.assertEqual(totals(straightened_book(sample)[0], most=4), totals(sample, most=4))

    def test_books_stay_as_they_are(self):
        asked, machine = book("ab", "X~ a = Y X"), even_machine()
        straightened_book(asked)
        toggled_book(asked, "X")
        backward_book(asked)
        self.assertEqual(asked, book("ab", "X~ a = Y X"))
        self.assertEqual(Table(asked, [machine]).book, asked)


if __name__ == "__main__":
    unittest.main()
