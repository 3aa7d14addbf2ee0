"""Points 95 to 98: twiceeach.cuts."""

import unittest

from tests.samples import book, search, text_of, thrown_books
from twiceeach.books import Book
from twiceeach.cuts import cut_book, cut_lots, cuts
from twiceeach.errors import BadLetters, BadSymbol, StandsThrice, TooLarge
from twiceeach.fillings import fills
from twiceeach.pairs import lots_of


def row(text):
    """A row that is written as "X a"."""
    return tuple(text.split())


def two_rows(many, seed):
    """Pairs of small rows with their alphabet, from thrown books."""
    return [(sample.letters, *sample.equations[0]) for sample in thrown_books(many, seed=seed) if len(sample) == 1]


class Cuts(unittest.TestCase):

    def test_between_comes_before_within(self):
        self.assertEqual(cuts(row("X a"), row("b X~ Y")),
                         (("between", 0), ("between", 1), ("between", 2), ("within", 1), ("within", 2)))

    def test_rows_without_pieces_and_empty_rows(self):
        self.assertEqual(cuts(row("X"), row("a b")), (("between", 0), ("between", 1)))
        self.assertEqual(cuts(row("X"), ()), (("between", 0),))
        self.assertEqual(cuts((), ()), (("between", 0),))
        self.assertEqual(cuts((), row("X X~")), (("between", 0), ("between", 1), ("within", 0), ("within", 1)))


class BooksOfCuts(unittest.TestCase):

    def test_cuts_between(self):
        left, right = row("X a"), row("b X~ Y")
        self.assertEqual(cut_book("ab", left, right, ("between", 0)), (book("ab", "X a = b X~ Y"), None))
        self.assertEqual(cut_book("ab", left, right, ("between", 1)), (book("ab", "X a = X~ Y b"), None))
        self.assertEqual(cut_book("ab", left, right, ("between", 2)), (book("ab", "X a = Y b X~"), None))
        self.assertEqual(cut_book("ab", left, (), ("between", 0)), (book("ab", "X a ="), None))

    def test_cuts_within_a_straight_piece(self):
        self.assertEqual(cut_book("ab", row("a Y"), row("b X a"), ("within", 1)),
                         (book("ab", "a Y = N1 a b N0"), ("X", "N0", "N1")))
        self.assertEqual(cut_book("ab", row("X~ Y"), row("X"), ("within", 0)),
                         (book("ab", "N1~ N0~ Y = N1 N0"), ("X", "N0", "N1")))

    def test_cuts_within_a_turned_piece(self):
        self.assertEqual(cut_book("ab", row("X a"), row("b X~"), ("within", 1)),
                         (book("ab", "N0 N1 a = N0~ b N1~"), ("X", "N0", "N1")))

    def test_the_other_standing_is_replaced_too(self):
        self.assertEqual(cut_book("ab", row("a"), row("X b X~ Y"), ("within", 0)),
                         (book("ab", "a = N1 b N1~ N0~ Y N0"), ("X", "N0", "N1")))
        self.assertEqual(cut_book("ab", row("a"), row("X b X~ Y"), ("within", 2)),
                         (book("ab", "a = N0~ Y N0 N1 b N1~"), ("X", "N0", "N1")))
        self.assertEqual(cut_book("ab", row("a"), row("X X"), ("within", 1)),
                         (book("ab", "a = N1 N0 N1 N0"), ("X", "N0", "N1")))

    def test_names_are_fresh_for_both_rows(self):
        self.assertEqual(cut_book("ab", row("N0 a"), row("N2 X"), ("within", 1)),
                         (book("ab", "N0 a = N3 N2 N1"), ("X", "N1", "N3")))
        self.assertEqual(cut_book("ab", row("N1~"), row("N0"), ("within", 0))[1], ("N0", "N2", "N3"))

    def test_errors_of_the_two_rows_come_first(self):
        for letters, left, right, error, field in [
                ("ba", row("X"), row("c"), BadLetters, ("letters", "ba")), ("ab", row("X"), row("c ?"), BadSymbol, ("symbol", "c")),
                ("ab", ("#",), row("X"), BadSymbol, ("symbol", "#")), ("ab", row("X X"), row("X"), StandsThrice, ("name", "X")),
                ("ab", row("a") * 25, (), TooLarge, ("what", "symbols")), ("ab", row("A B C D E F G"), (), TooLarge, ("what", "pieces"))]:
            with self.assertRaises(error) as caught:
                cut_book(letters, left, right, ("between", 0))
            self.assertEqual(getattr(caught.exception, field[0]), field[1])

    def test_cuts_beyond_the_limits(self):
        left, right = row("a") * 22, row("X Y")
        self.assertEqual(cut_book("ab", left, right, ("between", 1))[0].size, 24)
        with self.assertRaises(TooLarge) as caught:
            cut_book("ab", left, right, ("within", 0))
        self.assertEqual((caught.exception.what, caught.exception.limit), ("symbols", 24))
        left, right = row("A B C"), row("D E F")
        self.assertEqual(len(cut_book("ab", left, right, ("between", 1))[0].pieces), 6)
        with self.assertRaises(TooLarge) as caught:
            cut_book("ab", left, right, ("within", 2))
        self.assertEqual((caught.exception.what, caught.exception.limit), ("pieces", 6))

    def test_the_book_is_filled_by_what_makes_the_rows_turnings(self):
        for letters, left, right in two_rows(60, seed=19):
            asked = Book(letters, [(left, right)])
            for cut in cuts(left, right):
                made, parts = cut_book(letters, left, right, cut)
                for one in search(made, 4):
                    whole = dict(one) if parts is None else {name: one[name] for name in one if name not in parts}
                    if parts is not None:
                        whole[parts[0]] = one[parts[1]] + one[parts[2]]
                    self.assertEqual(tuple(sorted(whole)), asked.pieces)
                    ring = text_of(right, whole)
                    at = len(text_of(right[:cut[1]], whole))
                    if parts is not None:
                        at += len(one[parts[2 if right[cut[1]].endswith("~") else 1]])
                    self.assertEqual(text_of(left, whole), ring[at:] + ring[:at])
                    self.assertIs(fills(made, one), True)


class LotsOfCuts(unittest.TestCase):

    def test_cuts_between(self):
        made = cut_book("ab", row("X a"), row("b Y"), ("between", 1))
        self.assertEqual(cut_lots(made), ((), ("X",), ("Y",), ("X", "Y")))
        self.assertEqual(cut_lots(cut_book("ab", (), (), ("between", 0))), ((),))

    def test_cuts_within(self):
        made = cut_book("ab", row("X a A"), row("b Y"), ("within", 1))
        self.assertEqual(cut_lots(made), ((), ("A",), ("X",), ("A", "X")))
        self.assertEqual(cut_lots(cut_book("ab", row("a"), row("Y"), ("within", 0))), ((),))

    def test_they_are_lots_of_the_book(self):
        for letters, left, right in two_rows(60, seed=23):
            for cut in cuts(left, right):
                made = cut_book(letters, left, right, cut)
                every = lots_of(made[0].pieces)
                if made[1] is None:
                    self.assertEqual(cut_lots(made), every)
                else:
                    self.assertEqual(cut_lots(made), tuple(lot for lot in every if not set(lot) & set(made[1][1:])))


if __name__ == "__main__":
    unittest.main()
