"""Point 94: twiceeach.turnings."""

import itertools
import unittest

from tests.samples import texts_up_to
from twiceeach.turnings import least_turning, turnings


class Turnings(unittest.TestCase):

    def test_small_texts(self):
        self.assertEqual(turnings("abab", "baba"), (1, 3))
        self.assertEqual(turnings("abc", "cab"), (1,))
        self.assertEqual(turnings("cab", "abc"), (2,))
        self.assertEqual(turnings("aaa", "aaa"), (0, 1, 2))
        self.assertEqual(turnings("ab", "aa"), ())
        self.assertEqual(turnings("zy", "yz"), (1,))

    def test_the_empty_text(self):
        self.assertEqual(turnings("", ""), (0,))
        self.assertEqual(turnings("", "a"), ())
        self.assertEqual(turnings("a", ""), ())

    def test_texts_of_different_lengths(self):
        self.assertEqual(turnings("a", "aa"), ())
        self.assertEqual(turnings("abab", "ab"), ())

    def test_least_turnings(self):
        self.assertEqual(least_turning("baba"), "abab")
        self.assertEqual(least_turning("bca"), "abc")
        self.assertEqual(least_turning("zay"), "ayz")
        self.assertEqual(least_turning(""), "")
        self.assertEqual(least_turning("a"), "a")

    def test_they_agree_with_each_other(self):
        for one, other in itertools.product(texts_up_to("ab", 5), repeat=2):
            found = turnings(one, other)
            self.assertEqual(found != (), len(one) == len(other) and one in other + other)
            self.assertEqual(found != (), least_turning(one) == least_turning(other))
            self.assertEqual(list(found), sorted(found))
            for at in found:
                self.assertEqual(other[at:] + other[:at], one)
        for text in texts_up_to("abc", 5):
            made = [text[at:] + text[:at] for at in range(len(text))]
            self.assertEqual(least_turning(text), min(made, default=""))


if __name__ == "__main__":
    unittest.main()
