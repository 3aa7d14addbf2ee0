"""Point 140: twiceeach.keeping."""

import unittest

from tests.samples import all_samples, book, thrown_books
from twiceeach.books import Book
from twiceeach.keeping import first_walk, kept_walk, renamed_walk
from twiceeach.names import renamed
from twiceeach.pairs import END, after, lots_of, moves, start
from twiceeach.papers import judge_walk
from twiceeach.useful import verdict
from twiceeach.walks import walks

NAMES = ["Q", "B", "Z9", "A", "N0", "X1"]


def least_moves(sample, lot):
    """The least number of moves of the walks of the book with the lot, or None, by taking all moves at once."""
    level = {result[1] for result in [start(sample, lot)] if result is not None}
    met, many = set(level), 0
    while level and END not in level:
        results = [after(pair, move) for pair in level for move in moves(pair)]
        level = {result[1] for result in results if result is not None} - met
        met, many = met | level, many + 1
    return many if level else None


def plain_least_moves(sample):
    """The least number of moves of the walks of the book, or None."""
    found = [least_moves(sample, lot) for lot in lots_of(sample.pieces)]
    return min((many for many in found if many is not None), default=None)


def tables_for(sample):
    """Tables for the book: with straight values, with turned ones, and with the names turned round."""
    names = sample.pieces
    return [dict(zip(names, NAMES)), {name: NAMES[5 - at] + "~" * (at % 2) for at, name in enumerate(names)},
            {name: names[at - 1] + "~" * ((at + 1) % 2) for at, name in enumerate(names)}]


class FirstWalks(unittest.TestCase):

    def test_small_books(self):
        self.assertEqual(first_walk(Book("ab")), ((), ()))
        self.assertEqual(first_walk(book("ab", "X a = a X")), (("X",), ()))
        self.assertEqual(first_walk(book("ab", "X = a")), ((), (("is", "X", "a"),)))
        self.assertEqual(first_walk(book("ab", "a = a")), ((), ()))
        self.assertEqual(first_walk(book("ab", "X = b X~ a")), None)
        self.assertEqual(first_walk(book("ab", "a = b")), None)
        self.assertEqual(len(first_walk(book("ab", "X = a b a"))[1]), 3)

    def test_a_shortest_walk(self):
        for sample in all_samples() + thrown_books(300, seed=99):
            found, many = first_walk(sample), plain_least_moves(sample)
            self.assertIs(found is None, many is None)
            self.assertIs(found is None, verdict(sample) == "none")
            if found is not None:
                self.assertIs(judge_walk(sample, found), True)
                self.assertEqual(len(found[1]), many)

    def test_no_shorter_walk(self):
        for sample in [book("ab", "X = a b a"), book("ab", "X Y = a b"), book("ab", "a X = X b a", "Y = b"), book("ab", "X a b = b a X")]:
            found = first_walk(sample)
            lengths = [len(taken) for _, taken in walks(sample, most=8)]
            self.assertEqual(len(found[1]) if found else None, min(lengths, default=None))

    def test_a_large_book(self):
        sample = book("ab", "A B C D E F = F~ E~ D~ C~ B~ A~")
        found = first_walk(sample)
        self.assertEqual(found[1], ())
        self.assertIs(judge_walk(sample, found), True)


class KeptWalks(unittest.TestCase):

    def test_a_walk_of_the_book_is_kept(self):
        for sample in all_samples():
            for walk in list(walks(sample, most=4))[:10]:
                self.assertEqual(kept_walk(sample, walk), walk)

    def test_another_walk_is_not(self):
        sample = book("ab", "X a = a X")
        long = ((), (("starts", "X", "a"), ("is", "X", "a")))
        self.assertEqual(kept_walk(sample, long), long)
        for walk in [((), ()), ((), (("is", "X", "b"),)), (("Y",), ()), (("X", "Y"), ()), ((), (("is", "Y", "a"),)), None,
                     ((), (("starts", "X", "a"),)), (("X",), (("is", "X", "a"),))]:
            self.assertEqual(kept_walk(sample, walk), (("X",), ()))

    def test_books_without_walks(self):
        for sample in [book("ab", "a = b"), book("ab", "X a = b X"), book("ab", "X = a X")]:
            for walk in [None, ((), ()), (("X",), ()), ((), (("is", "X", "a"),))]:
                self.assertIsNone(kept_walk(sample, walk))

    def test_judging_and_the_first_walk_tell_it(self):
        samples = all_samples()[:60]
        for sample in samples:
            for other in samples[::7]:
                walk = first_walk(other)
                found = kept_walk(sample, walk)
                if walk is not None and judge_walk(sample, walk):
                    self.assertEqual(found, walk)
                elif found is None:
                    self.assertEqual(verdict(sample), "none")
                else:
                    self.assertEqual(len(found[1]), len(first_walk(sample)[1]))


class RenamedWalks(unittest.TestCase):

    def test_small_walks(self):
        walk = (("X", "Y"), (("starts", "Z", "a"), ("is", "W~", "Z")))
        self.assertEqual(renamed_walk(walk, {"X": "B", "Y": "A~", "Z": "C~", "W": "D~"}),
                         (("A", "B"), (("starts", "C~", "a"), ("is", "D", "C~"))))
        self.assertEqual(renamed_walk(((), ()), {}), ((), ()))
        self.assertEqual(renamed_walk(((), ()), {"X": "Y"}), ((), ()))

    def test_a_renamed_walk_is_a_walk_of_the_renamed_book(self):
        for sample in all_samples():
            for table in tables_for(sample):
                made = renamed(sample, table)
                for walk in list(walks(sample, most=4))[:6]:
                    self.assertIs(judge_walk(made, renamed_walk(walk, table)), True)

    def test_the_table_is_not_changed(self):
        table = {"X": "Y~"}
        renamed_walk((("X",), (("is", "X", "a"),)), table)
        self.assertEqual(table, {"X": "Y~"})


if __name__ == "__main__":
    unittest.main()
