"""Points 118 to 120: twiceeach.periods."""

import itertools
import math
import unittest

from tests.samples import texts_up_to
from twiceeach.errors import TooLarge
from twiceeach.lots import Lots
from twiceeach.periods import freest, is_period_lot, period_texts, periods


def plain_periods(text):
    """The periods, by the words of point 118."""
    many = len(text)
    return tuple(p for p in range(1, many + 1) if all(text[q] == text[q + p] for q in range(many - p)))


def has_all(text, wanted):
    """True if each wanted period is one of the text."""
    return all(period in plain_periods(text) for period in wanted)


def wanted_lots(length):
    """All wanted periods for a length."""
    return [wanted for many in range(max(1, length)) for wanted in itertools.combinations(range(1, length), many)]


class Periods(unittest.TestCase):

    def test_small_texts(self):
        for text, found in [("a", (1,)), ("aaa", (1, 2, 3)), ("ab", (2,)), ("aba", (2, 3)), ("abab", (2, 4)), ("abaab", (3, 5)),
                            ("aabaa", (3, 4, 5)), ("xyzx", (3, 4))]:
            self.assertEqual(periods(text), found)

    def test_the_empty_text_has_none(self):
        self.assertEqual(periods(""), ())

    def test_by_the_words_of_the_point(self):
        for text in texts_up_to("ab", 8) + texts_up_to("abc", 5):
            self.assertEqual(periods(text), plain_periods(text))

    def test_the_greatest_common_divisor_of_two_periods(self):
        for text in texts_up_to("ab", 9):
            for p, q in itertools.product(periods(text), repeat=2):
                g = math.gcd(p, q)
                if p + q - g <= len(text):
                    self.assertIn(g, periods(text))


class FreestTexts(unittest.TestCase):

    def test_small_texts(self):
        self.assertEqual(freest(5, (3,)), (0, 1, 2, 0, 1))
        self.assertEqual(freest(5, (3, 4)), (0, 0, 1, 0, 0))
        self.assertEqual(freest(5, (2, 3)), (0, 0, 0, 0, 0))
        self.assertEqual(freest(4, ()), (0, 1, 2, 3))
        self.assertEqual(freest(6, (2, 4)), (0, 1, 0, 1, 0, 1))
        self.assertEqual(freest(3, (1,)), (0, 0, 0))

    def test_the_lengths_0_and_1(self):
        self.assertEqual((freest(0, ()), freest(1, ())), ((), (0,)))
        self.assertIs(is_period_lot(0, ()), True)
        self.assertIs(is_period_lot(1, ()), True)
        self.assertEqual((period_texts("ab", 0, ()), period_texts("ab", 1, ())), ([""], ["a", "b"]))

    def test_the_classes_of_the_point(self):
        for length in range(8):
            for wanted in wanted_lots(length):
                lots = Lots(length)
                for p in wanted:
                    for q in range(length - p):
                        lots.glue(q, q + p)
                found = freest(length, wanted)
                self.assertEqual(found, tuple([at in lot for lot in lots.classes()].index(True) for at in range(length)))
                self.assertTrue(has_all(found, wanted))

    def test_wanted_periods_and_no_others(self):
        for length in range(8):
            texts = [text for text in texts_up_to("ab", length) if len(text) == length]
            met = {plain_periods(text)[:-1] for text in texts}
            for wanted in wanted_lots(length):
                self.assertIs(is_period_lot(length, wanted), wanted in met, (length, wanted))

    def test_small_lots(self):
        self.assertIs(is_period_lot(5, (3,)), True)
        self.assertIs(is_period_lot(5, (3, 4)), True)
        self.assertIs(is_period_lot(4, (2, 3)), False)
        self.assertIs(is_period_lot(5, (1,)), False)
        self.assertIs(is_period_lot(5, (1, 2, 3, 4)), True)
        self.assertIs(is_period_lot(40, (2, 39)), False)
        self.assertIs(is_period_lot(40, (20, 39)), True)
        self.assertIs(is_period_lot(40, (30, 39)), True)

    def test_the_lengths_40_and_41(self):
        self.assertEqual(freest(40, (1,)), (0,) * 40)
        self.assertEqual(freest(40, (39,)), tuple(range(39)) + (0,))
        self.assertIs(is_period_lot(40, ()), True)
        for call in [lambda: freest(41, ()), lambda: is_period_lot(41, (1,)), lambda: period_texts("ab", 41, (1,)),
                     lambda: period_texts("ab", 41, ()), lambda: period_texts("abcd", 1000, ())]:
            with self.assertRaises(TooLarge) as caught:
                call()
            self.assertEqual((caught.exception.what, caught.exception.limit), ("length", 40))


class TextsWithPeriods(unittest.TestCase):

    def test_small_lists(self):
        self.assertEqual(period_texts("ab", 3, (2,)), ["aaa", "aba", "bab", "bbb"])
        self.assertEqual(period_texts("ac", 2, ()), ["aa", "ac", "ca", "cc"])
        self.assertEqual(period_texts("abc", 40, (1,)), ["a" * 40, "b" * 40, "c" * 40])

    def test_plain_search(self):
        for letters, most in [("a", 7), ("ab", 7), ("abc", 4)]:
            for length in range(most + 1):
                texts = [text for text in texts_up_to(letters, length) if len(text) == length]
                for wanted in wanted_lots(length):
                    found = period_texts(letters, length, wanted)
                    self.assertEqual(found, [text for text in texts if has_all(text, wanted)])
                    self.assertEqual(len(found), len(letters) ** len(set(freest(length, wanted))))

    def test_256_and_257_texts(self):
        self.assertEqual(len(period_texts("ab", 8, ())), 256)
        self.assertEqual(len(period_texts("ab", 40, (8,))), 256)
        self.assertEqual(len(period_texts("abcd", 4, ())), 256)
        self.assertEqual(len(period_texts("abc", 5, ())), 243)
        self.assertEqual(len(period_texts("a", 40, ())), 1)
        for letters, length, wanted in [("ab", 9, ()), ("ab", 40, (9,)), ("abcd", 5, ()), ("abc", 6, ()), ("abcd", 40, ())]:
            with self.assertRaises(TooLarge) as caught:
                period_texts(letters, length, wanted)
            self.assertEqual((caught.exception.what, caught.exception.limit), ("texts", 256))

    def test_a_new_list_at_each_call(self):
        period_texts("ab", 1, ()).clear()
        self.assertEqual(period_texts("ab", 1, ()), ["a", "b"])


if __name__ == "__main__":
    unittest.main()
