"""Points 14 to 18: twiceeach.pairs."""

import unittest

from tests.samples import all_samples, book, search_pair, text_of
from twiceeach.books import Book
from twiceeach.pairs import END, after, lots_of, moves, settle, start, substitution
from twiceeach.symbols import names_in, standings
from twiceeach.web import Web


def pair_of(text):
    """A pair that is written as "X a = a X"."""
    return tuple(tuple(side.split()) for side in text.split("="))


def live_pairs():
    """Live pairs of some small books, with marks and turned pieces among them."""
    found = {pair: True for sample in all_samples() if sample.size < 9 for pair in Web(sample)}
    return [pair for pair in found if pair != END]


class Settling(unittest.TestCase):

    def test_the_end(self):
        self.assertEqual(END, ((), ()))
        self.assertEqual(settle(END), ((), END))

    def test_equal_letters_and_marks_are_removed_and_not_freed(self):
        self.assertEqual(settle(pair_of("a b X = a b c")), ((), pair_of("X = c")))
        self.assertEqual(settle(pair_of("a # a = a # a")), ((), END))
        self.assertEqual(settle(pair_of("# X = # a")), ((), pair_of("X = a")))

    def test_freed_pieces(self):
        self.assertEqual(settle(pair_of("X = X")), ((("X", "any"),), END))
        self.assertEqual(settle(pair_of("X~ = X~")), ((("X", "any"),), END))
        self.assertEqual(settle(pair_of("X = X~")), ((("X", "mirror"),), END))
        self.assertEqual(settle(pair_of("X~ = X")), ((("X", "mirror"),), END))
        self.assertEqual(settle(pair_of("Xa1 = Xa1~")), ((("Xa1", "mirror"),), END))

    def test_freed_pieces_are_listed_in_the_order_in_which_they_are_freed(self):
        freed = (("Y", "mirror"), ("X", "any"), ("Z", "any"))
        self.assertEqual(settle(pair_of("Y X a Z = Y~ X a Z")), (freed, END))

    def test_settling_stops_at_different_symbols(self):
        self.assertEqual(settle((("a", "X", "Y"), ("a", "X~", "b"))), ((("X", "mirror"),), (("Y",), ("b",))))
        self.assertEqual(settle(pair_of("X a = Y a")), ((), pair_of("X a = Y a")))
        self.assertEqual(settle(pair_of("X Y = Y X")), ((), pair_of("X Y = Y X")))
        self.assertEqual(settle(pair_of("X X1 = X X2")), ((("X", "any"),), pair_of("X1 = X2")))

    def test_a_piece_that_still_stands_is_not_freed(self):
        self.assertEqual(settle(pair_of("X X = X X~")), ((("X", "mirror"),), END))
        self.assertEqual(settle(pair_of("X Y = X X")), ((), pair_of("Y = X")))
        self.assertEqual(settle(pair_of("X Y = X X~")), ((), pair_of("Y = X~")))
        self.assertEqual(settle(pair_of("X X~ = X Y")), ((), pair_of("X~ = Y")))

    def test_dead_pairs(self):
        for text in ["X =", "= X", "a =", "= #", "a = b", "X a = X b", "a X = b X", "# = a", "a = #", "# X = X #",
                     "X # = # X", "X Y = X", "a a = a", "X~ # = # X", "a # b = a b #"]:
            with self.subTest(text):
                self.assertIsNone(settle(pair_of(text)))

    def test_live_pairs(self):
        for text in ["X = a", "a = X", "X = Y", "X~ = Y~", "X # a = a # X", "a X = X b", "X~ = a"]:
            with self.subTest(text):
                self.assertEqual(settle(pair_of(text)), ((), pair_of(text)))

    def test_the_fillings_of_a_pair_are_those_of_the_settled_pair_and_free_texts(self):
        for text in ["a X Y = a X~ b", "X Y = X Y~", "X a Y = X~ Y a", "X a = X b", "X Y = X", "X # Y = X # Y~", "a Y = a b"]:
            pair = pair_of(text)
            found = search_pair(pair, "ab", 3)
            result = settle(pair)
            if result is None:
                self.assertEqual(found, [])
                continue
            freed, settled = result
            many = len(search_pair(settled, "ab", 3))
            for _, kind in freed:
                many *= 2 + 4 + 8 if kind == "any" else 2 + 2 + 4
            self.assertEqual(len(found), many)


class Moves(unittest.TestCase):

    def test_the_end_has_no_moves(self):
        self.assertEqual(moves(END), ())

    def test_a_piece_and_a_letter(self):
        told = (("is", "X", "a"), ("starts", "X", "a"))
        self.assertEqual(moves(pair_of("X b = a Y")), told)
        self.assertEqual(moves(pair_of("a Y = X b")), told)
        turned_ones = (("is", "X~", "a"), ("starts", "X~", "a"))
        self.assertEqual(moves(pair_of("X~ = a")), turned_ones)
        self.assertEqual(moves(pair_of("a = X~")), turned_ones)

    def test_two_pieces(self):
        self.assertEqual(moves(pair_of("X = Y")), (("is", "X", "Y"), ("starts", "X", "Y"), ("starts", "Y", "X")))
        self.assertEqual(moves(pair_of("Y a = X~ b")), (("is", "Y", "X~"), ("starts", "Y", "X~"), ("starts", "X~", "Y")))
        self.assertEqual(moves(pair_of("Y~ = X~")), (("is", "Y~", "X~"), ("starts", "Y~", "X~"), ("starts", "X~", "Y~")))

    def test_substitutions(self):
        self.assertEqual(substitution(("is", "X", "a")), ("X", ("a",)))
        self.assertEqual(substitution(("is", "X~", "a")), ("X", ("a",)))
        self.assertEqual(substitution(("is", "X", "Y")), ("X", ("Y",)))
        self.assertEqual(substitution(("is", "X", "Y~")), ("X", ("Y~",)))
        self.assertEqual(substitution(("is", "X~", "Y")), ("X", ("Y~",)))
        self.assertEqual(substitution(("is", "X~", "Y~")), ("X", ("Y",)))
        self.assertEqual(substitution(("starts", "X", "a")), ("X", ("a", "X")))
        self.assertEqual(substitution(("starts", "X~", "a")), ("X", ("X", "a")))
        self.assertEqual(substitution(("starts", "X", "Y")), ("X", ("Y", "X")))
        self.assertEqual(substitution(("starts", "X", "Y~")), ("X", ("Y~", "X")))
        self.assertEqual(substitution(("starts", "X~", "Y")), ("X", ("X", "Y~")))
        self.assertEqual(substitution(("starts", "Xa~", "Y1~")), ("Xa", ("Xa", "Y1")))

    def test_results(self):
        pair = pair_of("X Y = Y X")
        self.assertEqual(after(pair, ("starts", "X", "Y")), ((), pair_of("X Y = Y X")))
        self.assertEqual(after(pair, ("starts", "Y", "X")), ((), pair_of("X Y = Y X")))
        self.assertEqual(after(pair, ("is", "X", "Y")), ((("Y", "any"),), END))
        self.assertEqual(after(pair_of("X X = Y Y~"), ("is", "X", "Y")), ((("Y", "mirror"),), END))
        self.assertEqual(after(pair_of("X a = a X"), ("is", "X", "a")), ((), END))
        self.assertEqual(after(pair_of("X a = a X"), ("starts", "X", "a")), ((), pair_of("X a = a X")))

    def test_results_of_turned_pieces(self):
        self.assertEqual(after(pair_of("X~ Y = a X"), ("is", "X~", "a")), ((), pair_of("Y = a")))
        self.assertEqual(after(pair_of("X~ Y = a X"), ("starts", "X~", "a")), ((("X", "mirror"),), pair_of("Y = a")))
        self.assertEqual(after(pair_of("X~ b = Y~ X"), ("starts", "X~", "Y~")), ((("X", "mirror"),), pair_of("b = Y")))
        self.assertEqual(after(pair_of("X~ Y = Y~ X"), ("is", "X~", "Y~")), ((("Y", "any"),), END))
        self.assertEqual(after(pair_of("X~ Y = Y X"), ("is", "X~", "Y")), ((("Y", "mirror"),), END))
        self.assertEqual(after(pair_of("X~ Y b = Y a X"), ("starts", "Y", "X~")), ((), pair_of("X~ Y b = Y a X")))

    def test_dead_results(self):
        self.assertIsNone(after(pair_of("X = a b"), ("is", "X", "a")))
        self.assertIsNone(after(pair_of("X = a"), ("starts", "X", "a")))
        self.assertIsNone(after(pair_of("X a = b X"), ("is", "X", "b")))
        self.assertIsNone(after(pair_of("X # a = b # X"), ("is", "X", "b")))

    def test_a_move_never_makes_a_pair_longer(self):
        for pair in live_pairs():
            for move in moves(pair):
                result = after(pair, move)
                if result is not None:
                    freed, behind = result
                    self.assertLessEqual(len(behind[0]) + len(behind[1]), len(pair[0]) + len(pair[1]))
                    for name in names_in(*behind):
                        self.assertLessEqual(standings(name, *behind), 2)
                    self.assertEqual(settle(behind), ((), behind))
                    self.assertFalse({name for name, _ in freed} & set(names_in(*behind)))

    def test_a_filling_of_a_live_pair_belongs_to_exactly_one_of_its_moves(self):
        for pair in live_pairs():
            if len(names_in(*pair)) > 2:
                continue
            for filling in search_pair(pair, "ab", 3):
                told = [move for move in moves(pair) if says(move, filling)]
                self.assertEqual(len(told), 1)
                freed, behind = after(pair, told[0])
                rest = rest_of(told[0], filling)
                self.assertEqual(text_of(behind[0], rest), text_of(behind[1], rest))
                for name, kind in freed:
                    self.assertTrue(rest[name] != "" and (kind == "any" or rest[name] == rest[name][::-1]))


def says(move, filling):
    """True if what the move says holds for the texts."""
    word, z, w = move
    one, other = text_of((z,), filling), text_of((w,), filling)
    return one == other if word == "is" else one.startswith(other) and one != other


def rest_of(move, filling):
    """What is left of the texts after a move."""
    word, z, w = move
    if word == "is":
        return filling
    left = text_of((z,), filling)[len(text_of((w,), filling)):]
    return {**filling, z.rstrip("~"): left[::-1] if z.endswith("~") else left}


class Starts(unittest.TestCase):

    def test_lots(self):
        self.assertEqual(lots_of(()), ((),))
        self.assertEqual(lots_of(("X",)), ((), ("X",)))
        self.assertEqual(lots_of(("A", "B", "C")), ((), ("A",), ("B",), ("A", "B"), ("C",), ("A", "C"), ("B", "C"),
                                                    ("A", "B", "C")))
        self.assertEqual(len(lots_of(("A", "B", "C", "D", "E", "F"))), 64)

    def test_starts(self):
        asked = book("ab", "X a = a X", "= Y Y~")
        self.assertEqual(start(asked, ()), ((), pair_of("X a # = a X # Y Y~")))
        self.assertEqual(start(asked, ("Y",)), ((), pair_of("X a # = a X #")))
        self.assertIsNone(start(asked, ("X",)))
        self.assertEqual(start(asked, ("X", "Y")), ((), END))

    def test_turned_pieces_of_the_lot_are_removed_too(self):
        self.assertEqual(start(book("ab", "X~ a Y = a X"), ("X",)), None)
        self.assertEqual(start(book("ab", "X~ a Y~ = a X Y"), ("X",)), ((("Y", "mirror"),), END))

    def test_the_start_is_settled(self):
        self.assertEqual(start(book("ab", "a X Y = a X~ b"), ()), ((("X", "mirror"),), pair_of("Y = b")))
        self.assertEqual(start(book("ab", "X = X"), ()), ((("X", "any"),), END))
        self.assertIsNone(start(book("ab", "a = b"), ()))

    def test_the_start_of_a_book_without_equations(self):
        self.assertEqual(start(Book("ab"), ()), ((), END))


if __name__ == "__main__":
    unittest.main()
