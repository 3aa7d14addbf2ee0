"""Points 132 and 133: twiceeach.genus."""

import unittest

from tests.test_opposites import thrown_rows
from tests.test_polygons import TORUS, balanced_words, plain_corners, plain_gluings
from twiceeach.errors import TooLarge
from twiceeach.genus import best_gluing, least_handles
from twiceeach.opposites import Word


def plain_handles(many, gluing):
    """The number of handles, by the words of point 132."""
    return 0 if many == 0 else (many // 2 + 1 - len(plain_corners(many, gluing))) // 2


class LeastHandles(unittest.TestCase):

    def test_small_words(self):
        self.assertEqual((least_handles(TORUS), best_gluing(TORUS)), (1, ((0, 2), (1, 3))))
        self.assertEqual(least_handles(Word([1, 2, 3, -1, -2, -3])), 1)
        self.assertEqual(least_handles(Word([1, 2, -1, -2, 3, 4, -3, -4])), 2)
        self.assertEqual(least_handles(TORUS * TORUS), 2)
        self.assertEqual(least_handles(TORUS ** 3), 2)
        self.assertEqual(best_gluing(Word([1, 1, 2, -1, -1, -2])), ((0, 3), (1, 4), (2, 5)))

    def test_the_empty_word(self):
        self.assertEqual((least_handles(Word([])), best_gluing(Word([]))), (0, ()))

    def test_words_that_are_not_balanced(self):
        for row in [[1], [1, 2, -1], [1] * 12, [1, 2, -1, 2]]:
            self.assertIsNone(least_handles(Word(row)))
            self.assertIsNone(best_gluing(Word(row)))

    def test_12_and_13_letters(self):
        self.assertEqual(least_handles(TORUS ** 3), 2)
        self.assertIsNone(least_handles(Word([1, 2] * 6)))
        for row in [[1, 2] * 6 + [1], [1] * 13, [1, 2, -1, -2] * 4, [1, 2] * 7 + [-1, -2] * 7, [1] * 200]:
            for asked in (least_handles, best_gluing):
                with self.assertRaises(TooLarge) as caught:
                    asked(Word(row))
                self.assertEqual((caught.exception.what, caught.exception.limit), ("letters", 12))

    def test_the_least_of_all_gluings_and_the_first_one_with_it(self):
        for word in balanced_words(6):
            if len(word) <= 8:
                counts = [(plain_handles(len(word), one), one) for one in plain_gluings(word.letters)]
                self.assertEqual((least_handles(word), best_gluing(word)), min(counts))

    def test_a_product_of_commutators_needs_no_more_handles(self):
        rows = thrown_rows(12, 2, 3)
        for first, second in zip(rows, rows[1:]):
            for third, fourth in zip(rows[2:], rows[5:]):
                word = Word(first).commutator(Word(second)) * Word(third).commutator(Word(fourth))
                if len(word) <= 12:
                    self.assertLessEqual(least_handles(word), 2)

    def test_a_commutator_has_at_most_one_handle(self):
        for first in thrown_rows(20, 3, 17):
            for second in thrown_rows(20, 3, 19):
                word = Word(first).commutator(Word(second))
                if len(word) <= 12:
                    self.assertEqual(least_handles(word), 0 if len(word) == 0 else 1)

    def test_words_with_the_letters_turned_round(self):
        for word in balanced_words(6):
            around = Word(word.letters[1:] + word.letters[:1])
            if len(around) == len(word):
                self.assertEqual(least_handles(around), least_handles(word))


if __name__ == "__main__":
    unittest.main()
