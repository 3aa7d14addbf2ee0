"""Points 9 and 10: twiceeach.books."""

import unittest

from twiceeach.books import Book, check_letters, check_row, check_standings
from twiceeach.errors import BadLetters, BadSymbol, StandsThrice, TooLarge

SEVEN = ["A", "B", "C", "D", "E", "F", "G"]


class Checks(unittest.TestCase):

    def test_alphabets(self):
        for letters in ["a", "z", "ab", "az", "abc", "bcyz", "abcd"]:
            self.assertIsNone(check_letters(letters))

    def test_no_alphabets(self):
        for letters in ["", "ba", "aa", "abb", "abcde", "A", "aB", "a b", "ab\n", "1", "a#", "\u00e4", "ac\u00e4", "acb", "`a",
                        "a{"]:
            with self.subTest(letters), self.assertRaises(BadLetters) as caught:
                check_letters(letters)
            self.assertEqual(caught.exception.letters, letters)

    def test_rows(self):
        self.assertIsNone(check_row("ab", ("a", "X", "b", "X~", "Ab12~")))
        self.assertIsNone(check_row("ab", []))
        self.assertIsNone(check_row("ab", ["X", "X", "X"]))

    def test_the_first_bad_symbol_of_a_row(self):
        for symbol in ["c", "", "ab", "A~~", "XY", "#", "1", "a~", "x1", " a", "a\n"]:
            with self.subTest(symbol), self.assertRaises(BadSymbol) as caught:
                check_row("ab", ["a", "X", symbol, "d"])
            self.assertEqual(caught.exception.symbol, symbol)

    def test_two_standings_are_good(self):
        self.assertIsNone(check_standings(("X", "X~", "a", "a", "a"), ("Y", "#", "#", "#"), ("Y~",)))
        self.assertIsNone(check_standings())
        self.assertIsNone(check_standings((), ()))

    def test_the_first_third_standing(self):
        for rows, name in [((("X", "X", "X"),), "X"),
                           ((("X", "Y"), ("Y~", "X~"), ("Y", "X")), "Y"),
                           ((("X", "X~"), ("Y", "Y"), ("Y~", "X")), "Y"),
                           ((("Y", "X", "X"), ("Z", "X~", "Y", "Y")), "X")]:
            with self.subTest(rows), self.assertRaises(StandsThrice) as caught:
                check_standings(*rows)
            self.assertEqual(caught.exception.name, name)


class Books(unittest.TestCase):

    def setUp(self):
        self.book = Book("ab", [(["X", "a"], ["a", "X"]), ([], ["Y", "Y~"])])

    def test_fields(self):
        self.assertEqual(self.book.letters, "ab")
        self.assertEqual(self.book.equations, ((("X", "a"), ("a", "X")), ((), ("Y", "Y~"))))
        self.assertEqual(self.book.pieces, ("X", "Y"))
        self.assertEqual(self.book.size, 6)

    def test_the_pieces_are_in_ascending_order(self):
        self.assertEqual(Book("a", [(("Z", "B1~"), ("B", "Ba"))]).pieces, ("B", "B1", "Ba", "Z"))

    def test_rows_may_be_tuples_or_lists(self):
        made = Book("ab", (((("X", "a")), ["a", "X"]), [(), ("Y", "Y~")]))
        self.assertEqual(made, self.book)
        self.assertIsInstance(made.equations, tuple)
        for equation in made.equations:
            self.assertIsInstance(equation, tuple)
            for row in equation:
                self.assertIsInstance(row, tuple)

    def test_the_joined_pair(self):
        self.assertEqual(self.book.joined(), (("X", "a", "#"), ("a", "X", "#", "Y", "Y~")))
        three = Book("ab", [(("a",), ()), ((), ("X",)), (("b",), ("a",))])
        self.assertEqual(three.joined(), (("a", "#", "#", "b"), ("#", "X", "#", "a")))
        self.assertEqual(Book("a", [(("X",), ("a",))]).joined(), (("X",), ("a",)))
        self.assertEqual(Book("a", [((), ()), ((), ())]).joined(), (("#",), ("#",)))

    def test_the_book_without_equations(self):
        for empty in [Book("abc"), Book("abc", []), Book("abc", equations=())]:
            self.assertEqual(empty.equations, ())
            self.assertEqual(empty.pieces, ())
            self.assertEqual(empty.size, 0)
            self.assertEqual(len(empty), 0)
            self.assertEqual(list(empty), [])
            self.assertEqual(empty.joined(), ((), ()))

    def test_length_and_iteration(self):
        self.assertEqual(len(self.book), 2)
        self.assertEqual(list(self.book), [(("X", "a"), ("a", "X")), ((), ("Y", "Y~"))])
        self.assertEqual(list(self.book), list(self.book))

    def test_equal_books(self):
        same = Book("ab", [(("X", "a"), ("a", "X")), ((), ("Y", "Y~"))])
        self.assertTrue(self.book == same)
        self.assertFalse(self.book != same)

    def test_unequal_books(self):
        others = [
            Book("abc", [(["X", "a"], ["a", "X"]), ([], ["Y", "Y~"])]),
            Book("ab", [([], ["Y", "Y~"]), (["X", "a"], ["a", "X"])]),
            Book("ab", [(["a", "X"], ["X", "a"]), ([], ["Y", "Y~"])]),
            Book("ab", [(["X", "a"], ["a", "X"])]),
            Book("ab"),
        ]
        for other in others:
            self.assertFalse(self.book == other)
            self.assertTrue(self.book != other)

    def test_a_book_equals_nothing_else(self):
        for other in [None, 1, "ab", self.book.equations, list(self.book), ("ab", self.book.equations)]:
            self.assertIs(self.book == other, False)

    def test_later_changes_to_the_lists_have_no_effect(self):
        left, right = ["X"], ["a"]
        equation = [left, right]
        equations = [equation]
        made = Book("ab", equations)
        left.append("Y")
        right.clear()
        equation[1] = ["b"]
        equations.append((["Z"], ["Z"]))
        self.assertEqual(made.equations, ((("X",), ("a",)),))
        self.assertEqual(made.pieces, ("X",))
        self.assertEqual(made.size, 2)
        self.assertEqual(made.joined(), (("X",), ("a",)))

    def test_the_arguments_stay(self):
        equations = [[["X", "a"], ["a", "X"]]]
        Book("ab", equations)
        self.assertEqual(equations, [[["X", "a"], ["a", "X"]]])


class Limits(unittest.TestCase):

    def assert_too_large(self, what, limit, letters, equations):
        with self.assertRaises(TooLarge) as caught:
            Book(letters, equations)
        self.assertEqual((caught.exception.what, caught.exception.limit), (what, limit))

    def test_equations(self):
        self.assertEqual(len(Book("a", [((), ())] * 4)), 4)
        self.assert_too_large("equations", 4, "a", [((), ())] * 5)

    def test_symbols(self):
        self.assertEqual(Book("a", [(["a"] * 24, [])]).size, 24)
        self.assertEqual(Book("a", [(["a"] * 12, ["a"] * 10), (["a"], ["a"])]).size, 24)
        self.assert_too_large("symbols", 24, "a", [(["a"] * 25, [])])
        self.assert_too_large("symbols", 24, "a", [(["a"] * 12, ["a"] * 10), (["a"], ["a"] * 2)])

    def test_pieces(self):
        self.assertEqual(len(Book("a", [(SEVEN[:6], SEVEN[5::-1])]).pieces), 6)
        self.assert_too_large("pieces", 6, "a", [(SEVEN, [])])
        self.assert_too_large("pieces", 6, "a", [(SEVEN[:3], SEVEN[3:5]), ([], ["F~", "G~"])])

    def test_standings(self):
        self.assertEqual(Book("a", [(["X"], []), ([], ["X~"])]).pieces, ("X",))
        for equations, name in [([(["X", "X"], ["X~"])], "X"),
                                ([(["X", "Y"], ["Y", "X"]), (["Y"], ["X"])], "Y"),
                                ([([], ["X", "Y"]), (["X", "Y"], []), ([], ["X", "Y"])], "X"),
                                ([(["Y", "X"], ["X"]), (["Y"], []), (["X"], ["Y"])], "X")]:
            with self.subTest(equations), self.assertRaises(StandsThrice) as caught:
                Book("a", equations)
            self.assertEqual(caught.exception.name, name)

    def test_symbols_outside_the_alphabet(self):
        for equations, symbol in [([(["a"], ["c"])], "c"),
                                  ([(["a"], ["d"]), (["c"], [])], "d"),
                                  ([(["X", "d", "c"], ["e"])], "d"),
                                  ([([], []), (["ab"], ["c"])], "ab"),
                                  ([(["#"], ["#"])], "#"),
                                  ([([""], ["c"])], ""),
                                  ([(["X~~"], ["c"])], "X~~")]:
            with self.subTest(equations), self.assertRaises(BadSymbol) as caught:
                Book("ab", equations)
            self.assertEqual(caught.exception.symbol, symbol)


class Order(unittest.TestCase):
    """If several errors apply, the one that point 9 names first is raised."""

    def assert_raises(self, error, letters, equations):
        with self.assertRaises(error) as caught:
            Book(letters, equations)
        return caught.exception

    def test_letters_are_first(self):
        made = self.assert_raises(BadLetters, "ba", [(["?"] * 25, ["?"])] * 5)
        self.assertEqual(made.letters, "ba")

    def test_equations_are_second(self):
        made = self.assert_raises(TooLarge, "ab", [(["?"] * 25, ["X"] * 3)] * 5)
        self.assertEqual((made.what, made.limit), ("equations", 4))

    def test_symbols_outside_are_third(self):
        made = self.assert_raises(BadSymbol, "ab", [(["X"] * 25, SEVEN + ["c"])])
        self.assertEqual(made.symbol, "c")

    def test_the_number_of_symbols_is_fourth(self):
        made = self.assert_raises(TooLarge, "ab", [(["X"] * 18, SEVEN)])
        self.assertEqual((made.what, made.limit), ("symbols", 24))

    def test_standings_are_fifth_and_pieces_last(self):
        made = self.assert_raises(StandsThrice, "ab", [(SEVEN, ["C", "C"])])
        self.assertEqual(made.name, "C")
        made = self.assert_raises(TooLarge, "ab", [(SEVEN, ["C"])])
        self.assertEqual((made.what, made.limit), ("pieces", 6))


if __name__ == "__main__":
    unittest.main()
