"""Points 3 to 8: twiceeach.symbols."""

import string
import unittest

from twiceeach.symbols import (fresh_names, is_letter, is_name, is_piece, name_of, names_in, replaced, standings, turned,
                               turned_symbol, without)

NO_NAMES = ["", "x", "a", "1", "1X", "_X", "Xabcd", "X1234", "XY", "XaB", "X_", "X-", "X ", " X", "X\n", "\nX", "X~a", "#",
            "\u00c4", "X\u00e4", "X\u0661", "[", "@", "X{", "X`", "X/", "X:", "~", "-"]
NAMES = ["X", "A", "Z", "Xa", "X1", "X0", "X9", "Xz", "Xab", "Xa1z", "N999", "Z000"]


class Kinds(unittest.TestCase):

    def test_letters(self):
        for sign in string.ascii_lowercase:
            self.assertIs(is_letter(sign), True)
        for text in ["", "A", "Z", "ab", "aa", "`", "{", "1", "#", "~", "a~", " ", "a ", "\n", "a\n", "-", "\u00e4", "X"]:
            self.assertIs(is_letter(text), False, text)

    def test_names(self):
        for text in NAMES:
            self.assertIs(is_name(text), True, text)
        for text in NO_NAMES + [name + "~" for name in NAMES]:
            self.assertIs(is_name(text), False, text)

    def test_pieces_are_names_and_turned_names(self):
        for text in NAMES:
            self.assertIs(is_piece(text), True, text)
            self.assertIs(is_piece(text + "~"), True, text)
            self.assertIs(is_piece(text + "~~"), False, text)
            self.assertIs(is_piece("~" + text), False, text)
        for text in NO_NAMES:
            self.assertIs(is_piece(text), False, text)
            self.assertIs(is_piece(text + "~"), False, text)


class Symbols(unittest.TestCase):

    def test_the_name_of_a_piece(self):
        self.assertEqual([name_of(symbol) for symbol in ["X", "X~", "Xa1", "Xa1~"]], ["X", "X", "Xa1", "Xa1"])

    def test_letters_and_the_mark_are_returned_unchanged(self):
        self.assertEqual([name_of(symbol) for symbol in ["a", "z", "#"]], ["a", "z", "#"])

    def test_turned_symbols(self):
        symbols = ["X", "X~", "Ab12", "Ab12~", "a", "z", "#"]
        turned_ones = ["X~", "X", "Ab12~", "Ab12", "a", "z", "#"]
        self.assertEqual([turned_symbol(symbol) for symbol in symbols], turned_ones)

    def test_turned_rows(self):
        self.assertEqual(turned(("a", "X", "Y~")), ("Y", "X~", "a"))
        self.assertEqual(turned(("#", "a", "b")), ("b", "a", "#"))
        self.assertEqual(turned(()), ())
        self.assertEqual(turned(("X", "X", "X~")), ("X", "X~", "X~"))


class Rows(unittest.TestCase):

    def test_names_in_rows(self):
        self.assertEqual(names_in(("Z", "a", "X~"), ("#", "X", "Aa", "A1", "A")), ("A", "A1", "Aa", "X", "Z"))
        self.assertEqual(names_in(("Za", "Z")), ("Z", "Za"))

    def test_names_in_no_rows_and_in_rows_without_pieces(self):
        self.assertEqual(names_in(), ())
        self.assertEqual(names_in((), ("a", "#")), ())

    def test_standings(self):
        self.assertEqual(standings("X", ("X", "X~", "X1", "a"), ("X",), ()), 3)
        self.assertEqual(standings("X", ("X1", "Y~", "#"), ("x",)), 0)
        self.assertEqual(standings("X1", ("X1~", "X", "X1")), 2)
        self.assertEqual(standings("X"), 0)

    def test_replacing(self):
        self.assertEqual(replaced(("X", "a", "X~"), "X", ("b", "X")), ("b", "X", "a", "X~", "b"))
        self.assertEqual(replaced(("X~", "#", "Y"), "X", ("a", "b", "Y~")), ("Y", "b", "a", "#", "Y"))

    def test_replacing_by_nothing(self):
        self.assertEqual(replaced(("X", "a", "X~", "X"), "X", ()), ("a",))

    def test_replacing_leaves_other_names(self):
        self.assertEqual(replaced(("X1", "Y", "X1~", "a", "#"), "X", ("b",)), ("X1", "Y", "X1~", "a", "#"))
        self.assertEqual(replaced((), "X", ("b",)), ())
        self.assertEqual(replaced(("X", "Y"), "X", ("Y", "X~")), ("Y", "X~", "Y"))

    def test_without_names(self):
        row = ("X", "a", "Y~", "#", "X~", "Z", "Y", "X1")
        self.assertEqual(without(row, ("X", "Y")), ("a", "#", "Z", "X1"))
        self.assertEqual(without(row, ()), row)
        self.assertEqual(without((), ("X",)), ())
        self.assertEqual(without(("X", "X~"), ("X",)), ())

    def test_fresh_names(self):
        self.assertEqual(fresh_names((), 3), ("N0", "N1", "N2"))
        self.assertEqual(fresh_names(("N0", "N2", "X"), 3), ("N1", "N3", "N4"))
        self.assertEqual(fresh_names(("N1",), 1), ("N0",))
        self.assertEqual(fresh_names(("N0",), 0), ())
        self.assertEqual(fresh_names(("N00", "N"), 11)[-1], "N10")

    def test_the_last_fresh_name(self):
        self.assertEqual(fresh_names((), 1000)[-1], "N999")


if __name__ == "__main__":
    unittest.main()
