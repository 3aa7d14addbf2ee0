"""Points 11 to 13: twiceeach.fillings."""

import itertools
import unittest

from tests.samples import all_samples, book, search, text_of, texts_up_to
from twiceeach.books import Book
from twiceeach.errors import BadFilling
from twiceeach.fillings import (check_filling, filling_key, fills, is_text, mirror_texts_of, mirrored, put_in, texts_of,
                                total)
from twiceeach.symbols import turned


class Texts(unittest.TestCase):

    def test_the_text_of_a_row(self):
        filling = {"X": "ab", "Y": "", "Z": "c"}
        self.assertEqual(put_in(("X", "a", "X~", "Y", "Z~"), filling), "ababac")
        self.assertEqual(put_in((), filling), "")
        self.assertEqual(put_in(("Y~", "Y"), filling), "")

    def test_the_mark_stands_for_itself(self):
        self.assertEqual(put_in(("X", "#", "a", "#"), {"X": "ab"}), "ab#a#")

    def test_names_of_several_characters(self):
        self.assertEqual(put_in(("X1~", "X"), {"X": "a", "X1": "bc"}), "cba")

    def test_the_text_of_the_turned_row_is_the_text_from_behind(self):
        row = ("X", "a", "Y~", "#", "b", "X~")
        filling = {"X": "ab", "Y": "abb"}
        self.assertEqual(put_in(turned(row), filling), put_in(row, filling)[::-1])

    def test_texts_over_an_alphabet(self):
        self.assertIs(is_text("ab", "abba"), True)
        self.assertIs(is_text("ab", ""), True)
        for text in ["c", "abc", "A", "a ", "a\n", "#", "-"]:
            self.assertIs(is_text("ab", text), False, text)


class Checking(unittest.TestCase):

    def setUp(self):
        self.book = book("ab", "X a = a X", "= Y Y~")

    def assert_bad(self, name, filling, asked=None):
        for function in (check_filling, fills):
            with self.subTest(function.__name__), self.assertRaises(BadFilling) as caught:
                function(self.book if asked is None else asked, filling)
            self.assertEqual(caught.exception.name, name)

    def test_a_filling_is_good_also_if_it_does_not_fill(self):
        self.assertIsNone(check_filling(self.book, {"Y": "", "X": "bb"}))
        self.assertIsNone(check_filling(Book("ab"), {}))

    def test_missing_pieces_and_other_keys(self):
        self.assert_bad("X", {"Y": ""})
        self.assert_bad("Y", {"X": ""})
        self.assert_bad("X", {})
        self.assert_bad("A", {"X": "", "Y": "", "A": ""})
        self.assert_bad("Z", {"X": "", "Y": "", "Z": ""})
        self.assert_bad("X~", {"X": "", "Y": "", "X~": ""})
        self.assert_bad("X", {"X": ""}, Book("ab"))

    def test_characters_outside_the_alphabet(self):
        self.assert_bad("Y", {"X": "", "Y": "abc"})
        self.assert_bad("X", {"X": "a ", "Y": ""})
        self.assert_bad("X", {"X": "A", "Y": ""})

    def test_the_first_name_in_ascending_order(self):
        self.assert_bad("X", {"Z": "", "Y": "c", "X": "c"})
        self.assert_bad("A", {"Z": "", "Y": "c", "A": ""})
        self.assert_bad("Xa", {"X": "", "Xa": "", "Z": ""})
        self.assert_bad("X", {"Xa": "", "Y": "c"})

    def test_filling(self):
        self.assertIs(fills(self.book, {"X": "aaa", "Y": ""}), True)
        self.assertIs(fills(self.book, {"X": "", "Y": ""}), True)
        self.assertIs(fills(self.book, {"X": "ab", "Y": ""}), False)
        self.assertIs(fills(self.book, {"X": "a", "Y": "a"}), False)
        self.assertIs(fills(Book("ab"), {}), True)
        self.assertIs(fills(book("ab", "a = b"), {}), False)
        self.assertIs(fills(book("ab", "X = Y~"), {"X": "ab", "Y": "ba"}), True)
        self.assertIs(fills(book("ab", "X = Y~"), {"X": "ab", "Y": "ab"}), False)

    def test_a_filling_fills_if_the_joined_rows_have_the_same_text(self):
        for sample in all_samples():
            if len(sample.pieces) < 3:
                found = search(sample, 3)
                for texts in itertools.product(texts_up_to(sample.letters, 2), repeat=len(sample.pieces)):
                    filling = dict(zip(sample.pieces, texts))
                    left, right = sample.joined()
                    self.assertIs(fills(sample, filling), text_of(left, filling) == text_of(right, filling))
                    if sum(map(len, texts)) <= 3:
                        self.assertIs(fills(sample, filling), filling in found)

    def test_the_arguments_stay(self):
        filling = {"Y": "", "X": "a"}
        fills(self.book, filling)
        mirrored(filling)
        filling_key(filling)
        self.assertEqual(list(filling.items()), [("Y", ""), ("X", "a")])


class Orders(unittest.TestCase):

    def test_totals(self):
        self.assertEqual(total({"X": "ab", "Y": "", "Z": "a"}), 3)
        self.assertEqual(total({}), 0)

    def test_mirrored(self):
        found = mirrored({"Y": "abb", "X": "ab", "Xa": ""})
        self.assertEqual(list(found.items()), [("X", "ba"), ("Xa", ""), ("Y", "bba")])
        self.assertEqual(mirrored({}), {})

    def test_changing_an_answer_has_no_effect(self):
        filling = {"X": "ab"}
        mirrored(filling)["X"] = "a"
        self.assertEqual(filling, {"X": "ab"})
        self.assertEqual(mirrored(filling), {"X": "ba"})
        texts_of("ab", 1).append("c")
        mirror_texts_of("ab", 1).append("c")
        self.assertEqual(texts_of("ab", 1), ["a", "b"])
        self.assertEqual(mirror_texts_of("ab", 1), ["a", "b"])

    def test_keys_of_fillings(self):
        self.assertEqual(filling_key({"Y": "ab", "X": "b", "Xa": ""}), (3, ("b", "", "ab")))
        self.assertEqual(filling_key({}), (0, ()))
        fillings = [{"X": "b", "Y": ""}, {"X": "", "Y": "bb"}, {"X": "a", "Y": "a"}, {"X": "", "Y": "b"}, {"X": "", "Y": "ab"}]
        found = sorted(fillings, key=filling_key)
        self.assertEqual([(one["X"], one["Y"]) for one in found], [("", "b"), ("b", ""), ("", "ab"), ("", "bb"), ("a", "a")])

    def test_texts_of_a_length(self):
        self.assertEqual(texts_of("ab", 0), [""])
        self.assertEqual(texts_of("ab", 2), ["aa", "ab", "ba", "bb"])
        self.assertEqual(texts_of("c", 3), ["ccc"])
        self.assertEqual(texts_of("abcd", 1), ["a", "b", "c", "d"])
        self.assertEqual(texts_of("acz", 3), sorted("".join(text) for text in itertools.product("acz", repeat=3)))

    def test_texts_that_are_their_own_mirrors(self):
        self.assertEqual(mirror_texts_of("ab", 0), [""])
        self.assertEqual(mirror_texts_of("ab", 1), ["a", "b"])
        self.assertEqual(mirror_texts_of("ab", 2), ["aa", "bb"])
        self.assertEqual(mirror_texts_of("ab", 3), ["aaa", "aba", "bab", "bbb"])
        for length in range(7):
            self.assertEqual(mirror_texts_of("abc", length), [text for text in texts_of("abc", length) if text == text[::-1]])


if __name__ == "__main__":
    unittest.main()
