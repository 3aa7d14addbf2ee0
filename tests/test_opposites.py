"""Points 127 to 129: twiceeach.opposites."""

import itertools
import unittest

from tests.samples import Dice
from twiceeach.errors import BadWord, TooLarge
from twiceeach.opposites import Word

LETTERS = [1, 2, 3, 4, -1, -2, -3, -4]


def taken_out(row):
    """The short form, by taking out the last two neighbours that are opposites, again and again."""
    row = list(row)
    places = [at for at in range(len(row) - 1) if row[at] == -row[at + 1]]
    while places:
        del row[places[-1]:places[-1] + 2]
        places = [at for at in range(len(row) - 1) if row[at] == -row[at + 1]]
    return tuple(row)


def thrown_rows(many, size, seed=1):
    """Rows of at most so many letters."""
    dice = Dice(seed)
    return [[LETTERS[dice.below(8)] for _ in range(dice.below(size + 1))] for _ in range(many)]


class CreatingWords(unittest.TestCase):

    def test_short_forms(self):
        for row, letters in [([], ()), ([1], (1,)), ([1, -1], ()), ([1, 2, -2, -1], ()), ((1, 2, -2, 3), (1, 3)), ([1, 1, -1], (1,)),
                             ([-4, 4, 4], (4,)), ([1, 2, -1, -2], (1, 2, -1, -2)), ([2, -2, 1, -1, 3, -3], ()), ([1, -1, 1], (1,))]:
            self.assertEqual(Word(row).letters, letters)

    def test_the_order_of_taking_out_has_no_effect(self):
        rows = [row for many in range(6) for row in itertools.product([1, -1, 2, -2], repeat=many)]
        for row in rows + thrown_rows(200, 30):
            self.assertEqual(Word(row).letters, taken_out(row))

    def test_what_is_no_letter(self):
        for row in [[0], [5], [-5], [1, 2, 0], [0, 1], [1, -1, 5], [100, -100], [5] * 300, [1] * 300 + [0]]:
            with self.subTest(row[:5]), self.assertRaises(BadWord):
                Word(row)

    def test_200_and_201_letters(self):
        self.assertEqual(len(Word([1] * 200)), 200)
        self.assertEqual(len(Word([1, 2] * 100 + [3, -3] * 100)), 200)
        self.assertEqual(Word([1, -1] * 500).letters, ())
        self.assertEqual(len(Word([1] * 201 + [-1])), 200)
        for row in [[1] * 201, [1, 2] * 200, [1] * 202 + [-1]]:
            with self.assertRaises(TooLarge) as caught:
                Word(row)
            self.assertEqual((caught.exception.what, caught.exception.limit), ("letters", 200))

    def test_what_it_is_given_is_copied(self):
        row = [1, 2]
        word = Word(row)
        row.append(3)
        row[0] = 4
        self.assertEqual((word.letters, row), ((1, 2), [4, 2, 3]))

    def test_letters_length_and_equality(self):
        word = Word([1, 2, -2, -3])
        self.assertEqual((list(word), len(word), word.letters), ([1, -3], 2, (1, -3)))
        self.assertEqual((list(Word([])), len(Word(()))), ([], 0))
        self.assertIs(word == Word((1, -3)), True)
        self.assertIs(word != Word((1, -3)), False)
        self.assertIs(word == Word((1, 3)), False)
        self.assertIs(Word([]) == Word([4, -4]), True)
        for other in [(1, -3), [1, -3], None, 0, "1", ()]:
            self.assertIs(word == other, False)
            self.assertIs(word != other, True)


class ProductsAndPowers(unittest.TestCase):

    def test_small_words(self):
        v, w = Word([1, 2]), Word([-2, 3])
        self.assertEqual((v * w).letters, (1, 3))
        self.assertEqual((w * v).letters, (-2, 3, 1, 2))
        self.assertEqual((~v).letters, (-2, -1))
        self.assertEqual((v ** 3).letters, (1, 2, 1, 2, 1, 2))
        self.assertEqual(v.commutator(w).letters, (1, 3, -2, -1, -3, 2))
        self.assertEqual(Word([1]).commutator(Word([2])).letters, (1, 2, -1, -2))
        self.assertEqual((Word([1, 2, -1]) ** 2).letters, (1, 2, 2, -1))
        self.assertIsInstance(v * w, Word)
        self.assertEqual((v.letters, w.letters), ((1, 2), (-2, 3)))

    def test_the_power_0_and_the_empty_word(self):
        self.assertEqual((Word([1, 2]) ** 0).letters, ())
        self.assertEqual((Word([]) ** 0).letters, ())
        self.assertEqual((Word([]) ** 1000000000).letters, ())
        self.assertEqual((Word([1, 2]) ** 1).letters, (1, 2))
        self.assertEqual((~Word([])).letters, ())
        self.assertEqual(Word([]).commutator(Word([1])).letters, ())

    def test_each_is_the_short_form_of_its_row(self):
        words = [Word(row) for row in thrown_rows(40, 6)]
        for v, w in itertools.product(words, repeat=2):
            back, other = [-letter for letter in reversed(v.letters)], [-letter for letter in reversed(w.letters)]
            self.assertEqual((v * w).letters, taken_out(list(v) + list(w)))
            self.assertEqual((~v).letters, tuple(back))
            self.assertEqual((v * ~v).letters, ())
            self.assertEqual(v.commutator(w).letters, taken_out([*v, *w, *back, *other]))
            self.assertIs(v.commutator(w).balanced(), True)
            self.assertEqual(v.commutator(w) * w * v, v * w)
        for word in words:
            for many in range(5):
                self.assertEqual((word ** many).letters, taken_out(list(word) * many))

    def test_more_than_200_letters(self):
        long = Word([1, 2] * 50)
        self.assertEqual(len(long * long), 200)
        self.assertEqual(len(Word([1]) ** 200), 200)
        self.assertEqual(len(Word([3] * 99 + [1, 2] + [-3] * 99) ** 1), 200)
        self.assertEqual(len(Word([3] * 98 + [1, 2] + [-3] * 98) ** 2), 200)
        self.assertEqual(long.commutator(long).letters, ())
        self.assertEqual(Word([1] * 200).commutator(Word([1] * 200)).letters, ())
        self.assertEqual(len(Word([1] * 50).commutator(Word([2] * 50))), 200)
        for call in [lambda: long * Word([1] * 101), lambda: Word([1]) ** 201, lambda: Word([1, 2]) ** 1000000000,
                     lambda: Word([3] * 99 + [1, 2] + [-3] * 99) ** 2, lambda: Word([1] * 50).commutator(Word([2] * 51))]:
            with self.assertRaises(TooLarge) as caught:
                call()
            self.assertEqual((caught.exception.what, caught.exception.limit), ("letters", 200))

    def test_balanced_words(self):
        for row, found in [([], True), ([1, 2, -1, -2], True), ([1], False), ([1, 2, -1], False), ([1, 2, -1, 2], False),
                           ([1, 2, 3, -1, -2, -3], True), ([1, -2], False), ([4, 3, -4, -4, -3, 4], True), ([1, 2, -1, -2, 4], False)]:
            self.assertIs(Word(row).balanced(), found, row)


if __name__ == "__main__":
    unittest.main()
