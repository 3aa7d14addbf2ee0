"""Points 31 to 33: twiceeach.web."""

import unittest

from tests.samples import all_samples, book, search
from twiceeach.books import Book
from twiceeach.listing import least_filling
from twiceeach.pairs import END, after, lots_of, moves, start
from twiceeach.web import Web


def pair_of(text):
    """A pair that is written as "X a = a X"."""
    return tuple(tuple(side.split()) for side in text.split("="))


class Webs(unittest.TestCase):

    def test_a_small_web(self):
        asked = book("ab", "X a = a X")
        web = Web(asked)
        pair = pair_of("X a = a X")
        self.assertEqual(web.book, asked)
        self.assertEqual(web.lots, ((), ("X",)))
        self.assertEqual(web.starts, (((), (), pair), (("X",), (), END)))
        self.assertEqual(web.pairs, (pair, END))
        self.assertEqual(web.steps(pair), ((("is", "X", "a"), (), END), (("starts", "X", "a"), (), pair)))
        self.assertEqual(web.steps(END), ())
        self.assertIs(web.solvable, True)

    def test_pairs_are_found_in_order(self):
        web = Web(book("ab", "X Y = a b Y"), lots=((),))
        self.assertEqual(web.pairs, (pair_of("X Y = a b Y"), pair_of("Y = b Y"), pair_of("X Y = b Y"), END, pair_of("X Y = Y")))
        self.assertEqual(web.steps(pair_of("X Y = b Y")), ((("is", "X", "b"), (("Y", "any"),), END),
                                                           (("starts", "X", "b"), (), pair_of("X Y = Y"))))

    def test_the_order_of_starts_and_of_moves(self):
        self.assertEqual(Web(book("ab", "X Y = Y X b")).starts, (((), (), pair_of("X Y = Y X b")),))
        web = Web(book("a", "X Y = a Z"), lots=(("Z",), ("X",), ()))
        self.assertEqual(web.pairs[:3], (pair_of("X Y = a"), pair_of("Y = a Z"), pair_of("X Y = a Z")))
        self.assertEqual(web.pairs[3:], (pair_of("Y = Z"), pair_of("X Y = Z"), END))

    def test_freed_pieces(self):
        web = Web(book("ab", "X Y = X~ Z"), lots=((), ("Y", "Z"), ("X",), ("Y",)))
        self.assertEqual(web.starts, (((), (("X", "mirror"),), pair_of("Y = Z")), (("Y", "Z"), (("X", "mirror"),), END),
                                      (("X",), (), pair_of("Y = Z"))))
        self.assertEqual(web.pairs, (pair_of("Y = Z"), END))
        self.assertEqual(web.steps(pair_of("Y = Z")), ((("is", "Y", "Z"), (("Z", "any"),), END),))

    def test_lots(self):
        asked = book("ab", "X Y = a")
        self.assertEqual(Web(asked).lots, ((), ("X",), ("Y",), ("X", "Y")))
        self.assertEqual(Web(asked, lots=None).lots, Web(asked).lots)
        self.assertEqual(Web(asked, lots=(("Y",), ())).lots, (("Y",), ()))
        self.assertEqual([lot for lot, _, _ in Web(asked, lots=(("Y",), ())).starts], [("Y",), ()])

    def test_no_lots(self):
        web = Web(book("ab", "X = a"), lots=())
        self.assertEqual((web.lots, web.starts, web.pairs, len(web), list(web)), ((), (), (), 0, []))
        self.assertIs(web.solvable, False)
        self.assertIs(END in web, False)

    def test_the_empty_lot_alone(self):
        self.assertIs(Web(book("ab", "X ="), lots=((),)).solvable, False)
        self.assertIs(Web(book("ab", "X ="), lots=(("X",),)).solvable, True)

    def test_books_without_equations_or_pieces(self):
        web = Web(Book("ab"))
        self.assertEqual((web.lots, web.starts, web.pairs), (((),), (((), (), END),), (END,)))
        self.assertIs(web.solvable, True)
        web = Web(book("ab", "a = b"))
        self.assertEqual((web.lots, web.starts, web.pairs), (((),), (), ()))
        self.assertIs(web.solvable, False)

    def test_membership_length_and_iteration(self):
        web = Web(book("ab", "X a = a X"))
        self.assertIs(pair_of("X a = a X") in web, True)
        self.assertIs(END in web, True)
        self.assertIs(pair_of("a X = X a") in web, False)
        self.assertEqual(len(web), 2)
        self.assertEqual(list(web), list(web.pairs))
        self.assertEqual(list(web), list(web))

    def test_the_alphabet_has_no_effect(self):
        self.assertEqual(Web(book("ab", "X a = a Y", "Y = X")).pairs, Web(book("abcd", "X a = a Y", "Y = X")).pairs)

    def test_the_pairs_are_those_that_plain_search_finds_in_order(self):
        for sample in all_samples():
            for lots in [None, lots_of(sample.pieces)[::-1], lots_of(sample.pieces)[:1]]:
                web = Web(sample, lots=lots)
                chosen = lots_of(sample.pieces) if lots is None else lots
                begun = [(lot, start(sample, lot)) for lot in chosen]
                starts = [(lot, *result) for lot, result in begun if result is not None]
                self.assertEqual(web.starts, tuple(starts))
                found = list(dict.fromkeys(pair for _, _, pair in starts))
                for pair in found:
                    steps = [(move, *after(pair, move)) for move in moves(pair) if after(pair, move) is not None]
                    self.assertEqual(web.steps(pair), tuple(steps))
                    found.extend(dict.fromkeys(behind for _, _, behind in steps if behind not in found))
                self.assertEqual(web.pairs, tuple(found))
                self.assertEqual(len(set(web.pairs)), len(web))
                self.assertIs(web.solvable, END in found)

    def test_a_web_is_solvable_if_a_filling_has_one_of_its_lots(self):
        for sample in all_samples():
            for lot in lots_of(sample.pieces):
                web = Web(sample, lots=(lot,))
                found = [one for one in search(sample, 4) if tuple(name for name in sorted(one) if one[name] == "") == lot]
                if found:
                    self.assertIs(web.solvable, True)
                elif least_filling(sample, most=8) is None:
                    self.assertIs(web.solvable, False)


if __name__ == "__main__":
    unittest.main()
