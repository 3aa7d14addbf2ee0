"""Points 26 and 27: twiceeach.names."""

import itertools
import unittest

from tests.samples import all_samples, book, search
from twiceeach.books import Book
from twiceeach.errors import BadNames
from twiceeach.fillings import fills
from twiceeach.names import alike_books, canonical, renamed, renamed_filling


class Renaming(unittest.TestCase):

    def assert_bad(self, name, call, *arguments):
        with self.subTest(arguments[1]), self.assertRaises(BadNames) as caught:
            call(*arguments)
        self.assertEqual(caught.exception.name, name)

    def test_renamed_books(self):
        asked = book("ab", "X a = a Y~", "X~ = Y")
        self.assertEqual(renamed(asked, {"X": "B1", "Y": "C"}), book("ab", "B1 a = a C~", "B1~ = C"))
        self.assertEqual(renamed(asked, {"X": "Y~", "Y": "X"}), book("ab", "Y~ a = a X~", "Y = X"))
        self.assertEqual(renamed(asked, {"Y": "Y~", "X": "X"}), book("ab", "X a = a Y", "X~ = Y~"))
        self.assertEqual(renamed(Book("abc"), {}), Book("abc"))

    def test_renamed_fillings(self):
        found = renamed_filling({"X": "ab", "Y": "abb"}, {"X": "Z~", "Y": "A"})
        self.assertEqual(list(found.items()), [("A", "abb"), ("Z", "ba")])
        found = renamed_filling({"Y": "abb", "X": "ab"}, {"Y": "X~", "X": "Y"})
        self.assertEqual(list(found.items()), [("X", "bba"), ("Y", "ab")])
        self.assertEqual(renamed_filling({}, {}), {})

    def test_tables_that_do_not_fit(self):
        asked = book("ab", "X a = a Y~", "X~ = Y")
        filling = {"Y": "ab", "X": ""}
        for call, first in [(renamed, asked), (renamed_filling, filling)]:
            self.assert_bad("X", call, first, {})
            self.assert_bad("X", call, first, {"Y": "A"})
            self.assert_bad("Y", call, first, {"X": "A"})
            self.assert_bad("A", call, first, {"X": "X", "Y": "Y", "A": "A"})
            self.assert_bad("Z", call, first, {"X": "X", "Y": "Y", "Z": "A"})
            self.assert_bad("X~", call, first, {"X": "X", "X~": "B", "Y": "Z"})
            self.assert_bad("Y", call, first, {"X": "A", "Y": "A"})
            self.assert_bad("Y", call, first, {"X": "A", "Y": "A~"})
            self.assert_bad("Y", call, first, {"Y": "A~", "X": "A"})
        self.assert_bad("X", renamed, Book("ab"), {"X": "X"})
        self.assert_bad("X", renamed_filling, {}, {"X": "X"})

    def test_values_that_are_no_pieces(self):
        for worth in ["", "a", "#", "x", "XY", "A~~", "~", "Abcde", "A ", "1"]:
            self.assert_bad("X", renamed, book("ab", "X = Y"), {"X": worth, "Y": "A"})
            self.assert_bad("Y", renamed_filling, {"X": "", "Y": ""}, {"X": "A", "Y": worth})

    def test_the_first_name_in_ascending_order(self):
        asked = book("ab", "X = Y")
        self.assert_bad("A", renamed, asked, {"X": "a", "A": "A"})
        self.assert_bad("X", renamed, asked, {"Y": "a", "X": "b", "Z": "C"})
        self.assert_bad("Xa", renamed, asked, {"X": "A", "Xa": "B", "Y": "A"})
        self.assert_bad("Y", renamed, asked, {"Z": "B", "Y": "A", "X": "A~"})

    def test_a_filling_fills_if_the_renamed_filling_fills_the_renamed_book(self):
        for sample in all_samples():
            names = sample.pieces
            table = dict(zip(names, ["Y~", "X", "Q~"]))
            made = renamed(sample, table)
            found = search(sample, 3)
            self.assertEqual(len(found), len(search(made, 3)))
            for filling in found:
                self.assertTrue(fills(made, renamed_filling(filling, table)))

    def test_the_arguments_stay(self):
        table = {"Y": "A~", "X": "Y"}
        filling = {"Y": "ab", "X": "a"}
        renamed_filling(filling, table)["A"] = ""
        renamed(book("ab", "X = Y"), table)
        self.assertEqual(list(table.items()), [("Y", "A~"), ("X", "Y")])
        self.assertEqual(list(filling.items()), [("Y", "ab"), ("X", "a")])


class Canonical(unittest.TestCase):

    def test_canonical_forms(self):
        made, table = canonical(book("ab", "X~ Y = a X"))
        self.assertEqual(made, book("ab", "A B = a A~"))
        self.assertEqual(list(table.items()), [("X", "A~"), ("Y", "B")])

    def test_the_keys_of_the_table_are_in_ascending_order(self):
        made, table = canonical(book("ab", "Z a = Y~", "X = Y"))
        self.assertEqual(made, book("ab", "A a = B", "C = B~"))
        self.assertEqual(list(table.items()), [("X", "C"), ("Y", "B~"), ("Z", "A")])

    def test_reading_order(self):
        made, table = canonical(book("a", "= F E~", "D = C", "B A~ = A B"))
        self.assertEqual(made, book("a", "= A B", "C = D", "E F = F~ E"))
        self.assertEqual(table, {"F": "A", "E": "B~", "D": "C", "C": "D", "B": "E", "A": "F~"})

    def test_books_without_pieces(self):
        self.assertEqual(canonical(Book("ab")), (Book("ab"), {}))
        self.assertEqual(canonical(book("ab", "a = b")), (book("ab", "a = b"), {}))

    def test_the_table_gives_the_form(self):
        for sample in all_samples():
            made, table = canonical(sample)
            self.assertEqual(renamed(sample, table), made)
            self.assertEqual(canonical(made), (made, {name: name for name in made.pieces}))
            self.assertEqual(made.letters, sample.letters)

    def test_changing_an_answer_has_no_effect(self):
        asked = book("ab", "X = Y")
        canonical(asked)[1]["X"] = "Z"
        self.assertEqual(canonical(asked)[1], {"X": "A", "Y": "B"})

    def test_alike_books(self):
        self.assertIs(alike_books(book("ab", "X a = a X"), book("ab", "Q a = a Q")), True)
        self.assertIs(alike_books(book("ab", "X a = a X"), book("ab", "Q~ a = a Q~")), True)
        self.assertIs(alike_books(book("ab", "X a = a X"), book("ab", "X a = a X~")), False)
        self.assertIs(alike_books(book("ab", "X a = a X"), book("abc", "X a = a X")), False)
        self.assertIs(alike_books(book("ab", "X = Y"), book("ab", "X = X")), False)
        self.assertIs(alike_books(book("ab", "X = a", "Y = b"), book("ab", "Y = b", "X = a")), False)
        self.assertIs(alike_books(Book("ab"), Book("ab")), True)

    def test_books_are_alike_if_a_table_makes_one_of_the_other(self):
        books = [book("ab", text) for text in ["X Y = a", "Y X = a", "Y~ X = a", "X X = a", "X Y = Y~ a", "Y X~ = X a", "X = Y a",
                                               "X~ X~ = a", "X X~ = a"]]
        for one, other in itertools.product(books, repeat=2):
            self.assertIs(alike_books(one, other), one in every_renaming(other))


def every_renaming(asked):
    """The book renamed by all tables whose values have the names X and Y."""
    made = []
    for names in itertools.permutations(["X", "Y"], len(asked.pieces)):
        for turns in itertools.product(["", "~"], repeat=len(names)):
            values = [name + turn for name, turn in zip(names, turns)]
            made.append(renamed(asked, dict(zip(asked.pieces, values))))
    return made


if __name__ == "__main__":
    unittest.main()
