"""Points 134 to 136: twiceeach.commutators."""

import unittest

from tests.test_polygons import TORUS, all_pairings, balanced_words
from twiceeach.commutators import commutators, crossing, split_off
from twiceeach.errors import BadWord, TooLarge
from twiceeach.genus import least_handles
from twiceeach.opposites import Word
from twiceeach.polygons import gluings, handles


def product_of(pairs):
    """The product of the commutators of pairs of words."""
    made = Word([])
    for first, second in pairs:
        made = made * first.commutator(second)
    return made


def plain_crossing(gluing):
    """The first crossing, by the words of point 134."""
    for i, j in sorted(gluing):
        for k, end in sorted(gluing):
            if i < k < j < end:
                return i, j, k, end
    return None


class Crossings(unittest.TestCase):

    def test_small_gluings(self):
        self.assertEqual(crossing(((0, 2), (1, 3))), (0, 2, 1, 3))
        self.assertEqual(crossing(((0, 3), (1, 4), (2, 5))), (0, 3, 1, 4))
        self.assertEqual(crossing(((0, 1), (2, 5), (3, 4), (6, 8), (7, 9))), (6, 8, 7, 9))
        self.assertEqual(crossing(((0, 4), (1, 2), (3, 5))), (0, 4, 3, 5))

    def test_gluings_in_which_nothing_crosses(self):
        for gluing in [(), ((0, 1),), ((0, 1), (2, 3)), ((0, 3), (1, 2)), ((0, 5), (1, 2), (3, 4))]:
            self.assertIsNone(crossing(gluing))

    def test_all_gluings_of_small_polygons(self):
        for many in (2, 4, 6, 8):
            for gluing in all_pairings(list(range(many))):
                found = crossing(gluing)
                self.assertEqual(found, plain_crossing(gluing))
                self.assertIs(found is None, handles(many, gluing) == 0)


class SplittingOff(unittest.TestCase):

    def test_small_rows(self):
        first, second, rest, gluing = split_off((1, 2, 3, -1, -2, -3), ((0, 3), (1, 4), (2, 5)))
        self.assertEqual((rest, gluing), ((3, -3), ((0, 1),)))
        self.assertEqual((first.letters, second.letters), ((1, -3), (3, 2)))
        first, second, rest, gluing = split_off((1, 2, -1, -2), ((0, 2), (1, 3)))
        self.assertEqual((first.letters, second.letters, rest, gluing), ((1,), (2,), (), ()))

    def test_the_words_of_the_point(self):
        letters, gluing = (3, 1, 4, 2, -3, -1, -4, -2), ((0, 4), (1, 5), (2, 6), (3, 7))
        first, second, rest, left = split_off(letters, gluing)
        p, q, r, s, t = (), (), (4, 2), (), (-4, -2)
        middle = s + r + q
        self.assertEqual(first, Word(p + (3,) + q + (-2, -4)))
        self.assertEqual(second, Word(p + middle + (1,) + r + q + (-2, -4)))
        self.assertEqual((rest, left), (p + s + r + q + t, ((0, 2), (1, 3))))

    def test_all_five_parts(self):
        # P = 4, a = 1, Q = 3, b = 2, R = -3, S = 3, T = -3 -4.
        letters = (4, 1, 3, 2, -3, -1, 3, -2, -3, -4)
        first, second, rest, left = split_off(letters, ((0, 9), (1, 5), (2, 4), (3, 7), (6, 8)))
        self.assertEqual((rest, left), ((4, 3, -3, 3, -3, -4), ((0, 5), (1, 4), (2, 3))))
        self.assertEqual(first, Word((4, 1, 3, -3, 3, -3, -4)))
        self.assertEqual(second, Word((4, 3, -3, 3, 2, -3, 3, -3, 3, -3, -4)))

    def test_no_crossing(self):
        self.assertIsNone(split_off((), ()))
        self.assertIsNone(split_off((1, -1), ((0, 1),)))
        self.assertIsNone(split_off((1, 2, -2, -1), ((0, 3), (1, 2))))

    def test_the_product_of_the_commutator_and_the_rest(self):
        for word in balanced_words(6):
            for gluing in gluings(word):
                self.check(word.letters, gluing)

    def check(self, letters, gluing):
        """The whole row is split again and again."""
        part = split_off(letters, gluing)
        self.assertIs(part is None, handles(len(letters), gluing) == 0)
        if part is None:
            self.assertEqual(Word(letters).letters, ())
        else:
            first, second, rest, left = part
            self.assertEqual(first.commutator(second) * Word(rest), Word(letters))
            self.assertEqual(handles(len(rest), left), handles(len(letters), gluing) - 1)
            self.assertTrue(all(i < j and rest[i] == -rest[j] for i, j in left))
            self.assertEqual(list(left), sorted(left))
            self.assertEqual(sorted(side for pair in left for side in pair), list(range(len(rest))))
            self.check(rest, left)

    def test_sixty_letters(self):
        letters = (1, 2, 3, 4, -1, -2, -3, -4) * 7 + (1, 2, -1, -2)
        gluing = tuple((at, at + 4) for base in range(0, 56, 8) for at in range(base, base + 4)) + ((56, 58), (57, 59))
        self.check(letters, gluing)
        far = tuple((at, at + 30) for at in range(30))
        self.check((1, 2, 3) * 10 + (-1, -2, -3) * 10, far)

    def test_rows_that_are_not_short(self):
        self.check((1, -1, 2, 1, -2, -1), ((0, 1), (2, 4), (3, 5)))
        self.check((1, -1, 2, 1, -2, -1), ((0, 5), (1, 3), (2, 4)))
        self.check((1, 1, -1, -1), ((0, 2), (1, 3)))


class ProductsOfCommutators(unittest.TestCase):

    def test_small_words(self):
        self.assertEqual(commutators(Word([])), [])
        found = commutators(TORUS)
        self.assertEqual([(first.letters, second.letters) for first, second in found], [((1,), (2,))])
        self.assertEqual(len(commutators(TORUS ** 3)), 2)

    def test_the_word_that_they_multiply_to(self):
        words = balanced_words(8)
        self.assertGreater(len(words), 100)
        for word in words:
            found = commutators(word)
            self.assertEqual(product_of(found), word)
            self.assertEqual(len(found), least_handles(word))
            self.assertTrue(all(isinstance(pair, tuple) and len(pair) == 2 for pair in found))

    def test_errors_in_their_order(self):
        for row in [[1], [1, 2, -1], [1] * 12, [1, 2] * 6]:
            with self.assertRaises(BadWord):
                commutators(Word(row))
        for row in [[1] * 13, [1, 2] * 7 + [-1, -2] * 7, [1, 2, -1, -2] * 4]:
            with self.assertRaises(TooLarge) as caught:
                commutators(Word(row))
            self.assertEqual((caught.exception.what, caught.exception.limit), ("letters", 12))

    def test_a_new_list_at_each_call(self):
        commutators(TORUS).clear()
        self.assertEqual(len(commutators(TORUS)), 1)


if __name__ == "__main__":
    unittest.main()
