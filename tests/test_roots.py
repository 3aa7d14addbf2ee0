"""Point 117: twiceeach.roots."""

import unittest

from tests.samples import texts_up_to
from twiceeach.roots import commute, exponent, root


def plain_root(text):
    """The shortest text of which the text is a power, by asking all its beginnings."""
    for length in range(1, len(text) + 1):
        if any(text[:length] * many == text for many in range(1, len(text) + 1)):
            return text[:length]
    return ""


class RootsAndExponents(unittest.TestCase):

    def test_small_texts(self):
        for text, found, many in [("a", "a", 1), ("aa", "a", 2), ("ab", "ab", 1), ("abab", "ab", 2), ("aba", "aba", 1),
                                  ("abaaba", "aba", 2), ("zyxzyxzyx", "zyx", 3), ("aabaab", "aab", 2), ("abababa", "abababa", 1)]:
            self.assertEqual((root(text), exponent(text)), (found, many), text)

    def test_the_empty_text(self):
        self.assertEqual((root(""), exponent("")), ("", 0))

    def test_powers_of_one_letter(self):
        for many in range(1, 40):
            self.assertEqual((root("q" * many), exponent("q" * many)), ("q", many))

    def test_the_shortest_text_of_which_it_is_a_power(self):
        for text in texts_up_to("ab", 9) + texts_up_to("abc", 5):
            self.assertEqual(root(text), plain_root(text))
            self.assertEqual(root(text) * exponent(text), text)

    def test_each_divisor_of_the_length(self):
        for text in texts_up_to("ab", 9)[1:]:
            parts = [text[:size] for size in range(1, len(text) + 1) if len(text) % size == 0]
            powers = [part for part in parts if part * (len(text) // len(part)) == text]
            self.assertEqual((root(text), exponent(text)), (powers[0], len(text) // len(powers[0])))
            self.assertEqual({root(part) for part in powers}, {powers[0]})


class CommutingTexts(unittest.TestCase):

    def test_small_texts(self):
        for first, second, found in [("ab", "abab", True), ("a", "aaa", True), ("ab", "ba", False), ("", "ab", True), ("ab", "", True),
                                     ("", "", True), ("a", "b", False), ("aba", "abaaba", True), ("ab", "aba", False)]:
            self.assertIs(commute(first, second), found)

    def test_one_is_empty_or_both_have_the_same_root(self):
        texts = texts_up_to("ab", 6)
        for first in texts:
            for second in texts:
                self.assertIs(commute(first, second), first == "" or second == "" or root(first) == root(second))


if __name__ == "__main__":
    unittest.main()
