"""Points 137 and 138: twiceeach.surfaces."""

import unittest

from tests.samples import Dice, all_samples, book
from twiceeach.errors import BadNames, BadSymbol
from twiceeach.pairs import END, after, lots_of, moves, settle
from twiceeach.surfaces import closed_row, surface_corners
from twiceeach.web import Web


def pair_of(text):
    """A pair that is written as "X a = a X"."""
    left, right = text.split("=")
    return tuple(left.split()), tuple(right.split())


def thrown_pairs(many, seed=1):
    """Pairs without letters and marks in which each of at most five pieces stands twice."""
    dice = Dice(seed)
    found = []
    for _ in range(many):
        rows = [], []
        for name in ["A", "B", "C", "D", "E"][:1 + dice.below(5)]:
            for _ in range(2):
                row = rows[dice.below(2)]
                row.insert(dice.below(len(row) + 1), name + "~" * (dice.below(3) == 0))
        found.append((tuple(rows[0]), tuple(rows[1])))
    return found


def plain_corner_count(row):
    """The number of classes, by gluing the ends of sides until nothing changes."""
    many = len(row)
    name = list(range(many))
    for _ in range(many):
        for one in range(many):
            for other in range(many):
                if one != other and abs(row[one]) == abs(row[other]):
                    same = row[one] == row[other]
                    for end in (0, 1):
                        a, b = name[(one + end) % many], name[(other + (end if same else 1 - end)) % many]
                        name = [min(a, b) if old in (a, b) else old for old in name]
    return len(set(name)) if many else 1


class ClosedRows(unittest.TestCase):

    def test_small_pairs(self):
        self.assertEqual(closed_row(pair_of("X Y = Y X")), (1, 2, -1, -2))
        self.assertEqual(closed_row(pair_of("X Y~ = Y X")), (1, -2, -1, -2))
        self.assertEqual(closed_row(pair_of("Z B = B Z~")), (2, 1, 2, -1))
        self.assertEqual(closed_row(pair_of("X X =")), (1, 1))
        self.assertEqual(closed_row(pair_of("= X X~")), (1, -1))
        self.assertEqual(closed_row(END), ())

    def test_letters_and_marks(self):
        for text, symbol in [("X a = b X", "a"), ("X = b X a", "b"), ("X # Y = Y X", "#"), ("X = X # a", "#"), ("Y b # = a #", "b"),
                             ("X Y = z", "z")]:
            for asked in (closed_row, surface_corners):
                with self.assertRaises(BadSymbol) as caught:
                    asked(pair_of(text))
                self.assertEqual(caught.exception.symbol, symbol)

    def test_a_piece_that_stands_once(self):
        for text, name in [("X = Y Y", "X"), ("Z Y =", "Y"), ("Y~ = Z X X", "Y"), ("B = B1", "B"), ("Z = A A Z X~", "X")]:
            for asked in (closed_row, surface_corners):
                with self.assertRaises(BadNames) as caught:
                    asked(pair_of(text))
                self.assertEqual(caught.exception.name, name)

    def test_a_symbol_is_named_ahead_of_a_name(self):
        with self.assertRaises(BadSymbol):
            closed_row(pair_of("A B = C a"))

    def test_the_left_row_and_the_turned_right_row(self):
        for left, right in thrown_pairs(100):
            names = sorted({symbol[0] for symbol in left + right})
            row = list(left) + [symbol[0] if symbol[-1] == "~" else symbol + "~" for symbol in reversed(right)]
            found = tuple((names.index(symbol[0]) + 1) * (-1 if symbol[-1] == "~" else 1) for symbol in row)
            self.assertEqual(closed_row((left, right)), found)


class Surfaces(unittest.TestCase):

    def test_small_surfaces(self):
        for text, count in [("X Y = Y X", 1), ("X = X", 2), ("X X =", 1), ("X X~ =", 2), ("X = X~", 1), ("X Y = X Y", 3), ("X Y = Y~ X~", 2),
                            ("X Y = Y X~", 1), ("X X = Y Y", 1), ("X Y Z = Z Y X", 2), ("X Y = X~ Y~", 1)]:
            self.assertEqual(surface_corners(pair_of(text)), count, text)

    def test_two_empty_rows(self):
        self.assertEqual(surface_corners(END), 1)

    def test_by_the_words_of_the_point(self):
        for pair in thrown_pairs(300):
            self.assertEqual(surface_corners(pair), plain_corner_count(closed_row(pair)))

    def test_a_pair_and_its_swapped_and_turned_ones(self):
        for left, right in thrown_pairs(100, seed=3):
            count = surface_corners((left, right))
            self.assertEqual(surface_corners((right, left)), count)

    def test_moves_keep_the_corners(self):
        met = 0
        for pair in thrown_pairs(300, seed=5):
            settled = settle(pair)
            if settled is not None and settled[1] != END:
                for move in moves(settled[1]):
                    result = after(settled[1], move)
                    if move[0] == "starts" and result is not None and result[0] == ():
                        self.assertEqual(surface_corners(result[1]), surface_corners(settled[1]))
                        met += 1
        self.assertGreater(met, 100)

    def test_moves_of_a_walk(self):
        for sample in [book("ab", "X Y Z = Z Y X"), book("ab", "X Y = Y~ X~"), book("ab", "X Y X = Z Y Z"), book("ab", "X X Y = Z Y Z")]:
            web = Web(sample, lots=lots_of(()))
            for pair in web.pairs:
                for move, freed, behind in web.steps(pair):
                    if move[0] == "starts" and freed == ():
                        self.assertEqual(surface_corners(behind), surface_corners(pair))

    def test_pairs_of_webs_that_have_a_closed_row(self):
        met = 0
        for sample in all_samples():
            for pair in Web(sample).pairs:
                try:
                    closed_row(pair)
                except (BadSymbol, BadNames):
                    continue
                met += 1
                self.assertEqual(surface_corners(pair), plain_corner_count(closed_row(pair)))
        self.assertGreater(met, 10)


if __name__ == "__main__":
    unittest.main()
