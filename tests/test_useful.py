"""Points 34 to 36: twiceeach.useful."""

import unittest

from tests.samples import all_samples, book, search
from twiceeach.books import Book
from twiceeach.errors import Endless
from twiceeach.pairs import END
from twiceeach.useful import find_ring, useful_pairs, useful_starts, useful_steps, verdict, walk_count
from twiceeach.web import Web


def pair_of(text):
    """A pair that is written as "X a = a X"."""
    return tuple(tuple(side.split()) for side in text.split("="))


def reaches_end(web, pair):
    """True if steps lead from the pair to the end, by plain search."""
    found = [pair]
    for one in found:
        found.extend(behind for _, _, behind in web.steps(one) if behind not in found)
    return END in found


class Useful(unittest.TestCase):

    def test_a_web_with_useless_pairs(self):
        web = Web(book("ab", "X Y = a b Y"), lots=((),))
        self.assertEqual(useful_pairs(web), (pair_of("X Y = a b Y"), pair_of("X Y = b Y"), END))
        self.assertEqual(useful_steps(web), (
            (pair_of("X Y = a b Y"), ("starts", "X", "a"), (), pair_of("X Y = b Y")),
            (pair_of("X Y = b Y"), ("is", "X", "b"), (("Y", "any"),), END)))
        self.assertEqual(useful_starts(web), (((), (), pair_of("X Y = a b Y")),))

    def test_a_start_that_is_not_useful(self):
        web = Web(book("a", "X Y = a Z"), lots=(("Z",), ("X",), ("X", "Y", "Z"), ()))
        self.assertEqual([lot for lot, _, _ in web.starts], [("Z",), ("X",), ()])
        self.assertEqual(useful_starts(web), ((("X",), (), pair_of("Y = a Z")), ((), (), pair_of("X Y = a Z"))))

    def test_nothing_is_useful_without_the_end(self):
        for web in [Web(book("ab", "X a = b X")), Web(book("ab", "a = b")), Web(book("ab", "X = a"), lots=())]:
            self.assertEqual((useful_pairs(web), useful_steps(web), useful_starts(web)), ((), (), ()))
            self.assertIsNone(find_ring(web))

    def test_the_end_itself_is_useful(self):
        web = Web(Book("ab"))
        self.assertEqual((useful_pairs(web), useful_steps(web), useful_starts(web)), ((END,), (), (((), (), END),)))

    def test_against_plain_search(self):
        for sample in all_samples():
            web = Web(sample)
            good = {pair: reaches_end(web, pair) for pair in web}
            self.assertEqual(useful_pairs(web), tuple(pair for pair in web if good[pair]))
            steps = [(pair, *step) for pair in web for step in web.steps(pair) if good[step[2]]]
            self.assertEqual(useful_steps(web), tuple(steps))
            self.assertEqual(useful_starts(web), tuple(one for one in web.starts if good[one[2]]))


class Rings(unittest.TestCase):

    def test_a_ring_of_one(self):
        self.assertEqual(find_ring(Web(book("ab", "X a = a X"))), ((pair_of("X a = a X"), ("starts", "X", "a")),))

    def test_a_ring_of_several(self):
        ring = find_ring(Web(book("ab", "X a b = a b X")))
        self.assertEqual(sorted(ring), [(pair_of("X a b = a b X"), ("starts", "X", "a")),
                                        (pair_of("X a b = b a X"), ("starts", "X", "b"))])

    def test_rings_of_useless_pairs_do_not_count(self):
        web = Web(book("ab", "X a = a X b"))
        self.assertIn((("starts", "X", "a"), (), web.pairs[0]), web.steps(web.pairs[0]))
        self.assertIsNone(find_ring(web))
        self.assertIsNone(find_ring(Web(book("a", "X Y = a", "Z a = a Z a"))))

    def test_each_ring_is_one(self):
        many = 0
        for sample in all_samples():
            web = Web(sample)
            ring = find_ring(web)
            if ring is not None:
                many += 1
                self.assertIsInstance(ring, tuple)
                self.assertGreater(len(ring), 0)
                pairs = [pair for pair, _ in ring]
                self.assertEqual(len(set(pairs)), len(pairs))
                self.assertTrue(set(pairs) <= set(useful_pairs(web)))
                for (pair, move), behind in zip(ring, pairs[1:] + pairs[:1]):
                    self.assertIn((move, (), behind), web.steps(pair))
        self.assertGreater(many, 10)

    def test_there_is_a_ring_if_a_useful_pair_leads_back_to_itself(self):
        for sample in all_samples():
            web = Web(sample)
            steps = useful_steps(web)
            back = False
            for pair in useful_pairs(web):
                found = [behind for one, _, _, behind in steps if one == pair]
                for one in found:
                    found.extend(behind for first, _, _, behind in steps if first == one and behind not in found)
                back = back or pair in found
            self.assertIs(find_ring(web) is not None, back)


class Verdicts(unittest.TestCase):

    def test_verdicts(self):
        for word, equations in [("none", ["a = b"]), ("none", ["X a = b X"]), ("none", ["X = X a"]), ("none", ["a ="]),
                                ("none", ["X = a", "X = b"]), ("none", ["X X = a a a"]),
                                ("finite", []), ("finite", ["="]), ("finite", ["a b = a b"]), ("finite", ["X ="]),
                                ("finite", ["X = a b"]), ("finite", ["X Y = a b a"]), ("finite", ["X X = a a"]),
                                ("endless", ["X = X"]), ("endless", ["X = X~"]), ("endless", ["X a = a X"]),
                                ("endless", ["X Y = Y X"]), ("endless", ["X = Y"]), ("endless", ["X a = b Y"])]:
            with self.subTest(equations):
                self.assertEqual(verdict(book("ab", *equations)), word)

    def test_a_freed_piece_at_a_start_is_enough(self):
        self.assertEqual(verdict(book("ab", "X Y = X a")), "endless")
        self.assertEqual(verdict(book("ab", "X Y = X~ a")), "endless")

    def test_a_freed_piece_at_a_dead_start_is_not(self):
        self.assertEqual(verdict(book("ab", "X a = X b")), "none")
        self.assertEqual(verdict(book("ab", "X Y = X Z", "a = b")), "none")

    def test_counts(self):
        self.assertEqual(walk_count(book("ab", "X Y = a b a")), 4)
        self.assertEqual(walk_count(book("ab", "X Y Z = a b a")), 10)
        self.assertEqual(walk_count(book("ab", "X X~ = a b b a")), 1)
        self.assertEqual(walk_count(book("ab", "X X = a b")), 0)
        self.assertEqual(walk_count(book("ab", "X = a", "X = b")), 0)
        self.assertEqual(walk_count(book("ab", "X Y = a b a", "Z = X")), 4)
        self.assertEqual(walk_count(book("abc", "X Y = a b", "Z A = b c a")), 12)
        self.assertEqual(walk_count(Book("ab")), 1)
        self.assertEqual(walk_count(book("ab", "a = b")), 0)

    def test_infinitely_many_cannot_be_counted(self):
        for equations in [["X = X"], ["X = X~"], ["X a = a X"], ["X = Y"], ["X Y = X a"]]:
            with self.subTest(equations), self.assertRaises(Endless):
                walk_count(book("ab", *equations))

    def test_verdicts_and_counts_against_plain_search(self):
        words = {}
        for sample in all_samples():
            word = verdict(sample)
            words[word] = words.get(word, 0) + 1
            found = search(sample, 5)
            if word == "none":
                self.assertEqual((found, walk_count(sample)), ([], 0))
            elif word == "finite":
                # The finite books among the samples have no filling with a total above 7.
                self.assertEqual(len(search(sample, 7)), walk_count(sample))
            else:
                with self.assertRaises(Endless):
                    walk_count(sample)
                self.assertGreater(len(search(sample, 7)), 0)
        self.assertEqual(sorted(words), ["endless", "finite", "none"])


if __name__ == "__main__":
    unittest.main()
