"""Points 21 to 25: twiceeach.texts."""

import unittest

from tests.samples import all_samples, book
from twiceeach.books import Book
from twiceeach.errors import BadLetters, BadSymbol, BadText, StandsThrice, TooLarge
from twiceeach.texts import (format_book, format_filling, format_row, format_walk, parse_book, parse_filling, parse_row,
                             parse_walk)
from twiceeach.walks import walks


class Reading(unittest.TestCase):
    """What the tests of reading share."""

    def assert_bad(self, parse, line, text):
        with self.subTest(text), self.assertRaises(BadText) as caught:
            parse(text)
        self.assertEqual(caught.exception.line, line)
        return caught.exception


class Rows(Reading):

    def test_writing(self):
        self.assertEqual(format_row(("X", "a", "#", "Y~")), "X a # Y~")
        self.assertEqual(format_row(("a",)), "a")
        self.assertEqual(format_row(()), "-")

    def test_reading(self):
        self.assertEqual(parse_row("X a # Y~"), ("X", "a", "#", "Y~"))
        self.assertEqual(parse_row("-"), ())
        self.assertEqual(parse_row("z"), ("z",))
        self.assertEqual(parse_row("X X X X1~ #"), ("X", "X", "X", "X1~", "#"))

    def test_what_is_no_row(self):
        for text in ["", " ", "X ", " X", "X  a", "- -", "X -", "- X", "X\n", "\n", "\nX", "X\na", "Xa a b2", "ab", "X~~", "~", "A B C =",
                     "1", "a~", "#~", "X\ta", "X\ra", "\u00e4", "--", "=", "XY"]:
            self.assert_bad(parse_row, 1, text)


class Books(Reading):

    def test_writing(self):
        self.assertEqual(format_book(book("ab", "X a = a X", "= Y Y~")), "letters ab\nX a = a X\n- = Y Y~")
        self.assertEqual(format_book(book("abcd", "=")), "letters abcd\n- = -")
        self.assertEqual(format_book(Book("z")), "letters z")

    def test_reading(self):
        self.assertEqual(parse_book("letters ab\nX a = a X\n- = Y Y~"), book("ab", "X a = a X", "= Y Y~"))
        self.assertEqual(parse_book("letters a\n- = -"), book("a", "="))
        self.assertEqual(parse_book("letters z"), Book("z"))
        self.assertEqual(parse_book("letters abcd\nX~ = -").equations, ((("X~",), ()),))

    def test_reading_what_was_written(self):
        for sample in all_samples():
            self.assertEqual(parse_book(format_book(sample)), sample)

    def test_bad_first_lines(self):
        for text in ["", "\n", "letters", "letters ", "letters  ab", "letters ab ", " letters ab", "letters a b", "letters aB",
                     "letters -", "Letters ab", "letter ab", "lettersab", "letters ab\r\nX = a", "letters a1", "letters\nX = a",
                     "letters\tab", "letters \u00e4", "X = a\nletters ab", "letters a#", "lettersx ab", "letters letters ab"]:
            self.assert_bad(parse_book, 1, text)

    def test_bad_other_lines(self):
        for line in ["", "X", "X =", "= X", "X  = a", "X =  a", "X = a ", " X = a", "X=a", "X = ", " = X", " = ", "X = a = b",
                     "- = - = -", "X == a", "= = =", "XY = a", "X = -a", "X a - = b", "- - = -", "X = 1", "letters ab", "X = a\r"]:
            self.assert_bad(parse_book, 2, "letters ab\n" + line)
            self.assert_bad(parse_book, 3, "letters ab\n- = -\n" + line + "\n?")

    def test_a_line_feed_behind_the_last_line(self):
        self.assert_bad(parse_book, 2, "letters ab\n")
        self.assert_bad(parse_book, 3, "letters ab\nX = a\n")

    def test_the_first_bad_line_comes_before_what_creating_raises(self):
        self.assert_bad(parse_book, 2, "letters ba\nX")
        self.assert_bad(parse_book, 4, "letters ab\nX = c\nX X = X\n-\n?")

    def test_lines_that_have_their_form_and_make_no_book(self):
        for text, error in [("letters ba", BadLetters), ("letters abcde\nX = c", BadLetters), ("letters aa", BadLetters),
                            ("letters ab" + "\n- = -" * 5, TooLarge),
                            ("letters ab\nX = c", BadSymbol), ("letters ab\n# = #", BadSymbol),
                            ("letters ab\nX X = X", StandsThrice),
                            ("letters ab\nA B C D = E F G", TooLarge)]:
            made = self.assert_bad(parse_book, 0, text)
            self.assertIs(type(made.__cause__), error)
        self.assertEqual(self.assert_bad(parse_book, 0, "letters ab\n- = a #").__cause__.symbol, "#")


class Fillings(Reading):

    def test_writing(self):
        self.assertEqual(format_filling({"Y": "ab", "X": "", "X1": "z"}), "X = -\nX1 = z\nY = ab")
        self.assertEqual(format_filling({}), "")

    def test_reading(self):
        self.assertEqual(list(parse_filling("X = -\nX1 = z\nY = ab").items()), [("X", ""), ("X1", "z"), ("Y", "ab")])
        self.assertEqual(parse_filling(""), {})
        self.assertEqual(parse_filling("X = zebra"), {"X": "zebra"})

    def test_changing_an_answer_has_no_effect(self):
        parse_filling("")["X"] = "a"
        parse_filling("X = a")["X"] = "b"
        self.assertEqual(parse_filling(""), {})
        self.assertEqual(parse_filling("X = a"), {"X": "a"})

    def test_bad_lines(self):
        for line in [" ", "Z", "Z =", "Z = ", "Z =a", "Z= a", "Z  = a", "Z =  a", "Z = a ", " Z = a", "Z~ = a", "z = a", "Z = A", "Z = a b",
                     "Z = --", "Z = a-", "Z = 1", "Z = a = b", "ZZ = a", "Z = \u00e4", "Z = a\r", "Z = #", "- = a", " = a"]:
            self.assert_bad(parse_filling, 1, line)
            self.assert_bad(parse_filling, 2, "X = a\n" + line + "\n?")

    def test_empty_lines(self):
        self.assert_bad(parse_filling, 1, "\n")
        self.assert_bad(parse_filling, 1, "\nX = a")
        self.assert_bad(parse_filling, 2, "X = a\n")
        self.assert_bad(parse_filling, 2, "X = a\n\nY = a")

    def test_names_have_to_ascend(self):
        self.assert_bad(parse_filling, 2, "X = a\nX = a")
        self.assert_bad(parse_filling, 2, "X = a\nA = a")
        self.assert_bad(parse_filling, 3, "A = a\nXa = -\nX1 = a\nA = a")


class Walks(Reading):

    def test_writing(self):
        walk = (("X", "Y1"), (("starts", "Z~", "a"), ("is", "Z", "Y~")))
        self.assertEqual(format_walk(walk), "empty X Y1\nstarts Z~ a\nis Z Y~")
        self.assertEqual(format_walk(((), ())), "empty -")

    def test_reading(self):
        walk = (("X", "Y1"), (("starts", "Z~", "a"), ("is", "Z", "Y~")))
        self.assertEqual(parse_walk("empty X Y1\nstarts Z~ a\nis Z Y~"), walk)
        self.assertEqual(parse_walk("empty -"), ((), ()))
        self.assertEqual(parse_walk("empty -\nis X z"), ((), (("is", "X", "z"),)))
        self.assertEqual(parse_walk("empty A A1 Aa B"), (("A", "A1", "Aa", "B"), ()))
        self.assertEqual(parse_walk("empty X\nstarts X X1"), (("X",), (("starts", "X", "X1"),)))

    def test_reading_what_was_written(self):
        for sample in all_samples():
            for walk in walks(sample, most=3):
                self.assertEqual(parse_walk(format_walk(walk)), walk)

    def test_bad_first_lines(self):
        for text in ["", "\n", "empty", "empty ", "empty  X", "empty X ", " empty X", "empty Y X", "empty X X", "empty X~", "empty a",
                     "empty X -", "empty - X", "empty --", "empty #", "Empty X", "empty X\r", "emptyX", "empty X  Y", "empty\nis X a",
                     "empty empty X", "empty X a", "empty A B B", "empty XY"]:
            self.assert_bad(parse_walk, 1, text)

    def test_bad_moves(self):
        for line in ["", "is", "is X", "is X ", "is X a ", " is X a", "is  X a", "is X  a", "is a X", "is a b", "is X #", "is # X", "is X X",
                     "is X X~", "starts X~ X", "starts X~ X~", "Is X a", "start X a", "starts X -", "is X a b", "X is a", "is X ab",
                     "is X A~~", "empty X", "is X a\r", "is XY a", "- - -"]:
            self.assert_bad(parse_walk, 2, "empty X\n" + line)
            self.assert_bad(parse_walk, 3, "empty -\nis Y a\n" + line + "\n?")

    def test_a_line_feed_behind_the_last_line(self):
        self.assert_bad(parse_walk, 2, "empty -\n")
        self.assert_bad(parse_walk, 3, "empty -\nis Y a\n")


if __name__ == "__main__":
    unittest.main()
