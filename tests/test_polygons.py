"""Points 130 to 132: twiceeach.polygons."""

import itertools
import math
import unittest

from tests.test_opposites import LETTERS, thrown_rows
from twiceeach.opposites import Word
from twiceeach.polygons import corners, gluings, handles

TORUS = Word([1, 2, -1, -2])


def all_pairings(sides):
    """All ways to take the sides in pairs, as ascending tuples of pairs."""
    if not sides:
        return [()]
    return [((sides[0], other), *rest) for other in sides[1:]
            for rest in all_pairings([side for side in sides[1:] if side != other])]


def plain_gluings(letters):
    """All gluings, by the words of point 130."""
    found = all_pairings(list(range(len(letters))))
    return sorted(one for one in found if all(letters[i] == -letters[j] for i, j in one))


def balanced_words(most):
    """All balanced words of at most so many of the letters 1 and 2 and their opposites, and some with more letters."""
    rows = [row for many in range(most + 1) for row in itertools.product([1, -1, 2, -2], repeat=many)]
    rows += [[*v, *w, *[-one for one in v], *[-one for one in w]] for v in thrown_rows(8, 3, 5) for w in thrown_rows(8, 3, 9)]
    found = {}
    for row in rows:
        word = Word(row)
        if word.balanced() and len(word) <= 12:
            found[word.letters] = word
    return list(found.values())


def plain_corners(many, gluing):
    """The classes of the corners, by gluing until nothing changes."""
    name = list(range(many))
    for _ in range(many):
        for i, j in gluing:
            for one, other in [(i, (j + 1) % many), ((i + 1) % many, j)]:
                name = [min(name[one], name[other]) if old in (name[one], name[other]) else old for old in name]
    return tuple(tuple(at for at in range(many) if name[at] == root) for root in sorted(set(name)))


class Gluings(unittest.TestCase):

    def test_small_words(self):
        self.assertEqual(list(gluings(TORUS)), [((0, 2), (1, 3))])
        self.assertEqual(list(gluings(Word([1, 2, 1, -2, -1, 2, -1, -2]))), plain_gluings((1, 2, 1, -2, -1, 2, -1, -2)))
        self.assertEqual(list(gluings(Word([1, 1, 2, -1, -1, -2]))), [((0, 3), (1, 4), (2, 5)), ((0, 4), (1, 3), (2, 5))])

    def test_the_empty_word(self):
        self.assertEqual(list(gluings(Word([]))), [()])

    def test_words_that_are_not_balanced(self):
        for row in [[1], [1, 2, -1], [1, 1], [1, 2, -1, 2], [1, 2, 3, 4] * 50, [1, 2] * 100]:
            self.assertEqual(list(gluings(Word(row))), [])

    def test_they_are_those_of_the_point_in_ascending_order(self):
        for word in balanced_words(6):
            if len(word) <= 8:
                self.assertEqual(list(gluings(word)), plain_gluings(word.letters))

    def test_a_word_has_a_gluing_if_and_only_if_it_is_balanced(self):
        for row in thrown_rows(200, 6):
            word = Word(row)
            self.assertIs(list(gluings(word)) != [], word.balanced())

    def test_a_long_word(self):
        word = Word([1, 2] * 50) * Word([-1, -2] * 50)
        made = gluings(word)
        self.assertEqual(next(made), tuple(zip(range(100), range(100, 200))))
        first_pairs = [(side, side + 100) for side in range(96)]
        self.assertEqual(next(made), (*first_pairs, (96, 196), (97, 199), (98, 198), (99, 197)))


class Corners(unittest.TestCase):

    def test_small_polygons(self):
        self.assertEqual(corners(4, ((0, 2), (1, 3))), ((0, 1, 2, 3),))
        self.assertEqual(corners(4, ((0, 1), (2, 3))), ((0, 2), (1,), (3,)))
        self.assertEqual(corners(4, ((0, 3), (1, 2))), ((0,), (1, 3), (2,)))
        self.assertEqual(corners(2, ((0, 1),)), ((0,), (1,)))
        self.assertEqual(corners(6, ((0, 3), (1, 4), (2, 5))), ((0, 2, 4), (1, 3, 5)))

    def test_no_sides(self):
        self.assertEqual((corners(0, ()), handles(0, ())), ((), 0))

    def test_pairs_in_any_order(self):
        for gluing in all_pairings(list(range(6))):
            for made in [gluing[::-1], tuple((j, i) for i, j in gluing)]:
                self.assertEqual(corners(6, made), corners(6, gluing))
                self.assertEqual(handles(6, made), handles(6, gluing))

    def test_all_gluings_of_small_polygons(self):
        for many in (2, 4, 6, 8):
            for gluing in all_pairings(list(range(many))):
                found = corners(many, gluing)
                self.assertEqual(found, plain_corners(many, gluing))
                count = many // 2 + 1 - len(found)
                self.assertEqual((count % 2, handles(many, gluing)), (0, count // 2))
                self.assertGreaterEqual(count, 0)

    def test_handles(self):
        self.assertEqual(handles(4, ((0, 2), (1, 3))), 1)
        self.assertEqual(handles(4, ((0, 1), (2, 3))), 0)
        self.assertEqual(handles(6, ((0, 3), (1, 4), (2, 5))), 1)
        self.assertEqual(handles(8, ((0, 2), (1, 3), (4, 6), (5, 7))), 2)
        self.assertEqual(handles(8, ((0, 4), (1, 5), (2, 6), (3, 7))), 2)

    def test_gluings_in_which_nothing_crosses(self):
        for many in (2, 4, 6, 8):
            flat = [one for one in all_pairings(list(range(many))) if handles(many, one) == 0]
            self.assertEqual(len(flat), math.comb(many, many // 2) // (many // 2 + 1))
            for gluing in flat:
                self.assertFalse(any(i < k < j < end for i, j in gluing for k, end in gluing))

    def test_all_letters(self):
        self.assertEqual([list(gluings(Word([letter, -letter]))) for letter in LETTERS], [[()]] * 8)


if __name__ == "__main__":
    unittest.main()
