"""Points 61 and 62: twiceeach.letting."""

import itertools
import unittest

from tests.samples import all_samples, book, search, thrown_books
from twiceeach.books import Book
from twiceeach.errors import BadLengths, TooLarge
from twiceeach.gluing import Gluing
from twiceeach.letting import balance, is_even, let_lengths
from twiceeach.listing import fillings
from twiceeach.symbols import standings


def lengths_of(filling):
    """The lengths that the filling has."""
    return {name: len(text) for name, text in filling.items()}


def lengths_order(lengths):
    """The order of point 62."""
    return sum(lengths.values()), [lengths[name] for name in sorted(lengths)]


def without_doubles(values):
    """The values in their order, each once."""
    return [value for at, value in enumerate(values) if value not in values[:at]]


class Balances(unittest.TestCase):

    def test_letters_and_pieces(self):
        self.assertEqual(balance(("X", "a", "b"), ("Y~", "a")), (1, {"X": 1, "Y": -1}))
        self.assertEqual(balance(("a",), ("b", "c", "Zed1")), (-1, {"Zed1": -1}))
        self.assertEqual(balance(("X", "X~"), ("a",)), (-1, {"X": 2}))

    def test_pieces_that_stand_equally_often_have_zero(self):
        self.assertEqual(balance(("X", "a"), ("a", "X~")), (0, {"X": 0}))

    def test_rows_without_pieces_or_symbols(self):
        self.assertEqual(balance((), ()), (0, {}))
        self.assertEqual(balance(("a", "b"), ()), (2, {}))
        self.assertEqual(balance((), ("X",)), (0, {"X": -1}))

    def test_keys_are_in_ascending_order(self):
        self.assertEqual(list(balance(("Z", "B"), ("Y~", "A", "B1"))[1]), ["A", "B", "B1", "Y", "Z"])

    def test_changing_an_answer_has_no_effect(self):
        left, right = ("X", "a"), ("Y",)
        balance(left, right)[1]["X"] = 7
        self.assertEqual(balance(left, right), (1, {"X": 1, "Y": -1}))


class EvenLengths(unittest.TestCase):

    def test_even_and_uneven_lengths(self):
        asked = book("ab", "X a = Y", "Y = Z Z~")
        self.assertIs(is_even(asked, {"X": 1, "Y": 2, "Z": 1}), True)
        self.assertIs(is_even(asked, {"X": 29, "Y": 30, "Z": 15}), True)
        self.assertIs(is_even(asked, {"X": 2, "Y": 2, "Z": 1}), False)
        self.assertIs(is_even(asked, {"X": 2, "Y": 3, "Z": 1}), False)
        self.assertIs(is_even(asked, {"X": 0, "Y": 0, "Z": 0}), False)

    def test_each_equation_counts_by_itself(self):
        asked = book("ab", "X a = Y", "Y a = X")
        for one, other in itertools.product(range(4), repeat=2):
            self.assertIs(is_even(asked, {"X": one, "Y": other}), False)

    def test_books_without_equations_or_pieces(self):
        self.assertIs(is_even(Book("ab"), {}), True)
        self.assertIs(is_even(book("ab", "a b = b a"), {}), True)
        self.assertIs(is_even(book("ab", "a b = a"), {}), False)

    def test_what_letters_there_are_does_not_matter(self):
        self.assertIs(is_even(book("ab", "X a = b X"), {"X": 30}), True)

    def test_bad_lengths(self):
        asked = book("ab", "X a = Y")
        for lengths, name in [({}, "X"), ({"X": 1}, "Y"), ({"X": -1, "Y": 31}, "X"), ({"X": 0, "Y": 31}, "Y"),
                              ({"A": 0, "X": 31, "Y": 0}, "A"), ({"X": 0, "X~": 0, "Y": 1}, "X~")]:
            with self.subTest(lengths), self.assertRaises(BadLengths) as caught:
                is_even(asked, lengths)
            self.assertEqual(caught.exception.name, name)

    def test_even_means_that_nothing_is_uneven_and_that_the_balance_is_zero(self):
        for sample in thrown_books(60, seed=9):
            for chosen in itertools.product(range(3), repeat=len(sample.pieces)):
                lengths = dict(zip(sample.pieces, chosen))
                even = is_even(sample, lengths)
                self.assertIs(even, not Gluing(sample, lengths).uneven)
                sums = []
                for left, right in sample.equations:
                    letters, pieces = balance(left, right)
                    sums.append(letters + sum(pieces[name] * lengths[name] for name in pieces))
                    for name in pieces:
                        self.assertEqual(pieces[name], standings(name, left) - standings(name, right))
                self.assertIs(even, not any(sums))


class LetLengths(unittest.TestCase):

    def test_small_books(self):
        self.assertEqual(let_lengths(book("ab", "X a = a X"), most=3), [{"X": 0}, {"X": 1}, {"X": 2}, {"X": 3}])
        self.assertEqual(let_lengths(book("ab", "X Y = a b"), most=12), [{"X": 0, "Y": 2}, {"X": 1, "Y": 1}, {"X": 2, "Y": 0}])
        self.assertEqual(let_lengths(book("ab", "X X~ = a b Y"), most=12), [{"X": 2, "Y": 2}, {"X": 3, "Y": 4},
                                                                            {"X": 4, "Y": 6}])

    def test_no_lengths(self):
        self.assertEqual(let_lengths(book("ab", "X a = b X"), most=12), [])
        self.assertEqual(let_lengths(book("ab", "X a = X"), most=12), [])
        self.assertEqual(let_lengths(book("ab", "X = a b"), most=1), [])

    def test_books_without_equations_or_pieces(self):
        self.assertEqual(let_lengths(Book("ab"), most=0), [{}])
        self.assertEqual(let_lengths(book("ab", "a = a"), most=12), [{}])
        self.assertEqual(let_lengths(book("ab", "a = b"), most=12), [])
        self.assertEqual(let_lengths(book("ab", "a ="), most=12), [])

    def test_the_sum_orders_first(self):
        found = let_lengths(book("ab", "Y X = X Y"), most=2)
        self.assertEqual(found, [{"X": 0, "Y": 0}, {"X": 0, "Y": 1}, {"X": 1, "Y": 0}, {"X": 0, "Y": 2}, {"X": 1, "Y": 1},
                                 {"X": 2, "Y": 0}])
        self.assertTrue(all(list(lengths) == ["X", "Y"] for lengths in found))

    def test_bounds(self):
        asked = book("ab", "X = X")
        self.assertEqual(let_lengths(asked, most=0), [{"X": 0}])
        self.assertEqual(len(let_lengths(asked, most=12)), 13)
        for most in (13, 100):
            with self.assertRaises(TooLarge) as caught:
                let_lengths(asked, most=most)
            self.assertEqual((caught.exception.what, caught.exception.limit), ("most", 12))

    def test_changing_an_answer_has_no_effect(self):
        asked = book("ab", "X = a")
        let_lengths(asked, most=2)[0]["X"] = 5
        let_lengths(asked, most=2).append({})
        self.assertEqual(let_lengths(asked, most=2), [{"X": 1}])

    def test_they_are_the_lengths_of_the_listed_fillings(self):
        for sample in all_samples():
            found = let_lengths(sample, most=5)
            had = without_doubles([lengths_of(one) for one in fillings(sample, most=5)])
            self.assertEqual(found, sorted(had, key=lengths_order))

    def test_they_are_the_lengths_of_the_fillings_that_plain_search_finds(self):
        for sample in thrown_books(80, seed=21):
            had = without_doubles([lengths_of(one) for one in search(sample, 4)])
            self.assertEqual(let_lengths(sample, most=4), sorted(had, key=lengths_order))


if __name__ == "__main__":
    unittest.main()
