"""Points 48 to 51: twiceeach.walks."""

import unittest

from tests.samples import all_samples, book, order, search
from twiceeach.books import Book
from twiceeach.errors import BadFilling, NoFilling, TooLarge
from twiceeach.forms import form_of
from twiceeach.pairs import END, after, lots_of, moves, start
from twiceeach.walks import walk_of, walks


def plain_walks(sample, lot, most):
    """The walks with the lot whose weight is at most `most`, in order, by plain search along the moves."""
    begun = start(sample, lot)
    found = []

    def go(taken, pair):
        if pair == END:
            if form_of(sample, (lot, taken)).weight <= most:
                found.append((lot, taken))
        elif sum(move[0] == "starts" for move in taken) <= most:
            for move in moves(pair):
                result = after(pair, move)
                if result is not None:
                    go(taken + (move,), result[1])

    if begun is not None:
        go((), begun[1])
    return found


class WalksUpToAWeight(unittest.TestCase):

    def setUp(self):
        self.book = book("ab", "X a = a X")

    def test_a_small_book(self):
        step, out = ("starts", "X", "a"), ("is", "X", "a")
        self.assertEqual(list(walks(self.book, most=2)), [((), (out,)), ((), (step, out)), (("X",), ())])
        self.assertEqual(list(walks(self.book, most=1)), [((), (out,)), (("X",), ())])
        self.assertEqual(list(walks(self.book, most=0)), [(("X",), ())])
        self.assertEqual(len(list(walks(self.book, most=12))), 13)

    def test_lots(self):
        self.assertEqual(list(walks(self.book, most=1, lots=(("X",), ()))), [(("X",), ()), ((), (("is", "X", "a"),))])
        self.assertEqual(list(walks(self.book, most=1, lots=(("X",),))), [(("X",), ())])
        self.assertEqual(list(walks(self.book, most=12, lots=())), [])
        self.assertEqual(list(walks(self.book, most=2, lots=None)), list(walks(self.book, most=2)))

    def test_books_without_pieces(self):
        self.assertEqual(list(walks(Book("ab"), most=0)), [((), ())])
        self.assertEqual(list(walks(book("ab", "a = b"), most=12)), [])

    def test_the_weight_counts_free_pieces_and_letters(self):
        self.assertEqual(list(walks(book("ab", "X = X"), most=0)), [(("X",), ())])
        self.assertEqual(list(walks(book("ab", "X = X"), most=1)), [((), ()), (("X",), ())])
        self.assertEqual(list(walks(book("ab", "X = Y Y"), most=2)), [(("X", "Y"), ())])
        self.assertEqual(len(list(walks(book("ab", "X = Y Y"), most=3))), 2)

    def test_the_bound(self):
        self.assertEqual(list(walks(book("ab", "X = a"), most=12)), [((), (("is", "X", "a"),))])
        for most in [13, 14, 100]:
            with self.subTest(most), self.assertRaises(TooLarge) as caught:
                list(walks(self.book, most=most))
            self.assertEqual((caught.exception.what, caught.exception.limit), ("most", 12))

    def test_the_generator_raises_when_it_is_iterated(self):
        made = walks(self.book, most=13)
        self.assertIs(iter(made), made)
        with self.assertRaises(TooLarge):
            next(made)
        with self.assertRaises(TooLarge):
            list(walks(self.book, most=13, lots=()))

    def test_walks_are_yielded_one_by_one(self):
        made = walks(self.book, most=2)
        self.assertEqual(next(made), ((), (("is", "X", "a"),)))
        self.assertEqual(next(made), ((), (("starts", "X", "a"), ("is", "X", "a"))))
        self.assertEqual(list(made), [(("X",), ())])

    def test_the_order_of_moves(self):
        found = list(walks(book("ab", "X Y = Y X"), most=3, lots=((),)))
        out, one, other = ("is", "X", "Y"), ("starts", "X", "Y"), ("starts", "Y", "X")
        self.assertEqual(found, [((), (out,)), ((), (one, out)), ((), (other, out))])

    def test_against_plain_search(self):
        for sample in all_samples():
            expected = [walk for lot in lots_of(sample.pieces) for walk in plain_walks(sample, lot, 4)]
            self.assertEqual(list(walks(sample, most=4)), expected)
            lots = lots_of(sample.pieces)[::-2]
            expected = [walk for lot in lots for walk in plain_walks(sample, lot, 3)]
            self.assertEqual(list(walks(sample, most=3, lots=lots)), expected)


class TheWalkOfAFilling(unittest.TestCase):

    def test_walks_and_free_texts(self):
        asked = book("ab", "X Y = Y X")
        taken = (("starts", "X", "Y"), ("is", "X", "Y"))
        self.assertEqual(walk_of(asked, {"X": "abab", "Y": "ab"}), (((), taken), {"Y": "ab"}))
        self.assertEqual(walk_of(asked, {"Y": "", "X": "ab"}), ((("Y",), ()), {"X": "ab"}))
        self.assertEqual(walk_of(asked, {"X": "", "Y": ""}), ((("X", "Y"), ()), {}))
        self.assertEqual(walk_of(Book("ab"), {}), (((), ()), {}))

    def test_turned_pieces(self):
        asked = book("ab", "X~ = a b Y")
        taken = (("starts", "X~", "a"), ("starts", "X~", "b"), ("is", "X~", "Y"))
        self.assertEqual(walk_of(asked, {"X": "bbaba", "Y": "abb"}), (((), taken), {"Y": "abb"}))
        asked = book("ab", "X Y~ = Z X")
        taken = (("starts", "X", "Z"), ("starts", "Z", "X"), ("starts", "Y~", "Z"), ("is", "Y~", "X"))
        self.assertEqual(walk_of(asked, {"X": "aba", "Y": "ab", "Z": "ab"}), (((), taken), {"X": "a", "Z": "b"}))

    def test_a_letter_is_the_shorter_or_the_equal_one(self):
        asked = book("ab", "a Y = X b")
        self.assertEqual(walk_of(asked, {"X": "a", "Y": "b"}), (((), (("is", "X", "a"), ("is", "Y", "b"))), {}))
        self.assertEqual(walk_of(asked, {"X": "aa", "Y": "ab"})[0], ((), (("starts", "X", "a"), ("starts", "Y", "X"), ("is", "Y", "b"))))

    def test_the_keys_of_the_free_texts_are_in_ascending_order(self):
        _, texts = walk_of(book("ab", "Z B Y = Z B~ Y"), {"B": "aa", "Y": "a", "Z": "ab"})
        self.assertEqual(list(texts.items()), [("B", "aa"), ("Y", "a"), ("Z", "ab")])

    def test_bad_fillings(self):
        asked = book("ab", "X a = a X")
        for filling, name in [({}, "X"), ({"X": "c"}, "X"), ({"X": "", "Y": ""}, "Y"), ({"A": "", "X": "c"}, "A")]:
            with self.subTest(filling), self.assertRaises(BadFilling) as caught:
                walk_of(asked, filling)
            self.assertEqual(caught.exception.name, name)

    def test_fillings_that_do_not_fill(self):
        for asked, filling in [(book("ab", "X a = a X"), {"X": "ab"}), (book("ab", "a = b"), {}),
                               (book("ab", "X = X~"), {"X": "ab"})]:
            with self.subTest(filling), self.assertRaises(NoFilling):
                walk_of(asked, filling)

    def test_the_argument_stays_and_answers_are_new(self):
        asked, filling = book("ab", "X Y = Y X"), {"Y": "ab", "X": "abab"}
        walk_of(asked, filling)[1]["Y"] = ""
        self.assertEqual(list(filling.items()), [("Y", "ab"), ("X", "abab")])
        self.assertEqual(walk_of(asked, filling)[1], {"Y": "ab"})

    def test_a_filling_belongs_to_one_walk_and_its_free_texts(self):
        for sample in all_samples():
            listed = list(walks(sample, most=4))
            seen = {}
            for filling in search(sample, 4):
                walk, texts = walk_of(sample, filling)
                form = form_of(sample, walk)
                self.assertEqual(tuple(texts), tuple(form.free))
                self.assertEqual(form.fill(texts), filling)
                self.assertIn(walk, listed)
                self.assertEqual(walk[0], tuple(name for name in sample.pieces if filling[name] == ""))
                total = order(filling)[0]
                self.assertGreaterEqual(total, form.weight)
                self.assertIs(total == form.weight, all(len(text) == 1 for text in texts.values()))
                seen[walk, tuple(texts.items())] = True
            self.assertEqual(len(seen), len(search(sample, 4)))

    def test_a_long_filling(self):
        walk, texts = walk_of(book("ab", "X a = a X"), {"X": "a" * 500})
        self.assertEqual((walk[0], len(walk[1]), texts), ((), 500, {}))


if __name__ == "__main__":
    unittest.main()
