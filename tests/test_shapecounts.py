"""Point 123: twiceeach.shapecounts."""

import itertools
import unittest

from tests.samples import book, text_of, texts_up_to
from tests.test_shapes import PATTERNS
from twiceeach.gluing import Gluing
from twiceeach.shapecounts import shape_count

ROLES = {word: sorted(set(pattern) & set("ABC")) for word, pattern in PATTERNS.items()}


def plain_count(letters, word, lengths):
    """The number of solutions, by trying all texts."""
    rows = [side.split() for side in PATTERNS[word].split(" = ")]
    texts = [[text for text in texts_up_to(letters, length) if len(text) == length] for length in lengths]
    chosen = [dict(zip(ROLES[word], found)) for found in itertools.product(*texts)]
    return sum(text_of(rows[0], one) == text_of(rows[1], one) for one in chosen)


class Counts(unittest.TestCase):

    def test_small_counts(self):
        for word, lengths, count in [
                ("same", (3, 3), 8), ("same", (3, 2), 0), ("mirror", (2, 2), 4), ("mirror", (2, 1), 0), ("own", (5,), 8), ("own", (4,), 4),
                ("commute", (4, 6), 4), ("commute", (3, 5), 2), ("lead", (2, 2, 5), 4), ("lead", (2, 3, 5), 0), ("leadmirror", (3, 4), 4),
                ("leadmirror", (4, 6), 4), ("wholemirror", (2, 3), 8), ("bothmirror", (3, 3), 16), ("squares", (2, 2), 4),
                ("squares", (2, 3), 0), ("mirrorsquares", (3, 3), 4), ("mirrorsquares", (3, 1), 0)]:
            self.assertEqual(shape_count("ab", word, lengths), count, (word, lengths))

    def test_the_length_0_of_each_role(self):
        for word, lengths, count in [
                ("same", (0, 0), 1), ("same", (0, 1), 0), ("mirror", (0, 0), 1), ("own", (0,), 1), ("commute", (0, 0), 1), ("commute", (0, 3), 27),
                ("commute", (3, 0), 27), ("lead", (0, 0, 0), 1), ("lead", (0, 0, 3), 27), ("lead", (3, 3, 0), 27), ("lead", (0, 1, 3), 0),
                ("lead", (1, 0, 3), 0), ("leadmirror", (0, 0), 1), ("leadmirror", (0, 3), 27), ("leadmirror", (3, 0), 9),
                ("wholemirror", (0, 0), 1), ("wholemirror", (0, 3), 9), ("wholemirror", (3, 0), 9), ("bothmirror", (0, 0), 1),
                ("bothmirror", (0, 3), 9), ("bothmirror", (3, 0), 9), ("squares", (0, 0), 1), ("mirrorsquares", (0, 0), 1),
                ("mirrorsquares", (0, 2), 0)]:
            self.assertEqual(shape_count("abc", word, lengths), count, (word, lengths))

    def test_large_lengths(self):
        self.assertEqual(shape_count("abcd", "same", (30, 30)), 4 ** 30)
        self.assertEqual(shape_count("abcd", "bothmirror", (30, 29)), 4 ** 30)
        self.assertEqual(shape_count("abcd", "wholemirror", (30, 29)), 4 ** 30)
        self.assertEqual(shape_count("abcd", "lead", (0, 0, 30)), 4 ** 30)
        self.assertEqual(shape_count("ab", "commute", (30, 24)), 2 ** 6)
        self.assertEqual(shape_count("ab", "leadmirror", (7, 30)), 2 ** 4)
        self.assertEqual(shape_count("ab", "leadmirror", (6, 29)), 2 ** 4)

    def test_plain_search(self):
        for word, roles in ROLES.items():
            for lengths in itertools.product(range(4), repeat=len(roles)):
                self.assertEqual(shape_count("ab", word, lengths), plain_count("ab", word, lengths), (word, lengths))

    def test_told_lengths(self):
        for word, roles in ROLES.items():
            made = book("abc", PATTERNS[word])
            for lengths in itertools.product([0, 1, 2, 3, 5, 6, 9, 30], repeat=len(roles)):
                many = Gluing(made, dict(zip(roles, lengths))).many
                self.assertEqual(shape_count("abc", word, lengths), many, (word, lengths))

    def test_one_letter(self):
        for word, roles in ROLES.items():
            lengths = (4,) * len(roles)
            self.assertEqual(shape_count("a", word, lengths), 1)


if __name__ == "__main__":
    unittest.main()
