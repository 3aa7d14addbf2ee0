"""Points 121 and 122: twiceeach.shapes."""

import itertools
import unittest

from tests.samples import book
from twiceeach.books import Book
from twiceeach.shapes import shape_of

PATTERNS = {"same": "A = B", "mirror": "A = B~", "own": "A = A~", "commute": "A B = B A", "lead": "A C = C B",
            "leadmirror": "A C = C A~", "wholemirror": "A B = B~ A~", "bothmirror": "A B = A~ B~", "squares": "A A = B B",
            "mirrorsquares": "A A = B B~"}


def exchanged(equation):
    """The written equation with its sides exchanged."""
    left, right = equation.split(" = ")
    return right + " = " + left


def plain_shape(asked):
    """The shape, by trying all names for the roles of each pattern."""
    if len(asked.equations) != 1:
        return None
    for word, pattern in PATTERNS.items():
        roles = sorted(set(pattern) & set("ABC"))
        for written in (asked.equations[0], asked.equations[0][::-1]):
            for names in itertools.permutations(asked.pieces, len(roles)):
                table = dict(zip(roles, names))
                sides = [tuple(table[one[0]] + one[1:] for one in side.split()) for side in pattern.split(" = ")]
                if tuple(sides) == written:
                    return word, names
    return None


def small_equations():
    """All equations with at most two symbols on each side, made of three pieces and a letter."""
    symbols = ["X", "X~", "Y", "Y~", "Z", "a"]
    sides = [side for many in range(3) for side in itertools.product(symbols, repeat=many)]
    for left, right in itertools.product(sides, repeat=2):
        row = [symbol.rstrip("~") for symbol in left + right]
        if all(row.count(name) <= 2 for name in "XYZ"):
            yield left, right


class Shapes(unittest.TestCase):

    def test_each_pattern_as_it_stands(self):
        for word, pattern in PATTERNS.items():
            roles = tuple(sorted(set(pattern) & set("ABC")))
            self.assertEqual(shape_of(book("ab", pattern)), (word, roles))

    def test_other_names(self):
        for pattern, word, names in [("Q = P7", "same", ("Q", "P7")), ("Y Z X~ = Z", None, None), ("Z = Z~", "own", ("Z",)),
                                     ("Z Y = X Z", "lead", ("X", "Y", "Z")), ("Z Y = Y X", "lead", ("Z", "X", "Y")),
                                     ("C B = B A", "lead", ("C", "A", "B")), ("X A = A X~", "leadmirror", ("X", "A"))]:
            self.assertEqual(shape_of(book("ab", pattern)), None if word is None else (word, names))

    def test_exchanged_sides(self):
        for pattern, word, names in [("X~ = Y", "mirror", ("Y", "X")), ("X~ = X", "own", ("X",)), ("X Y = Z X", "lead", ("Z", "Y", "X")),
                                     ("X Y~ = Y X", "leadmirror", ("Y", "X")), ("X~ Y~ = Y X", "wholemirror", ("Y", "X")),
                                     ("X~ Y~ = X Y", "bothmirror", ("X", "Y")), ("X X~ = Y Y", "mirrorsquares", ("Y", "X"))]:
            self.assertEqual(shape_of(book("ab", pattern)), (word, names))

    def test_both_ways_give_the_names_as_it_stands(self):
        for pattern, word, names in [("Y = X", "same", ("Y", "X")), ("Y X = X Y", "commute", ("Y", "X")), ("Y Y = X X", "squares", ("Y", "X"))]:
            self.assertEqual(shape_of(book("ab", pattern)), (word, names))

    def test_the_first_pattern_counts(self):
        self.assertEqual(shape_of(book("ab", "X Y = Y X"))[0], "commute")
        self.assertEqual(shape_of(book("ab", "X = X~"))[0], "own")

    def test_books_without_an_equation_and_with_two(self):
        self.assertIsNone(shape_of(Book("ab")))
        self.assertIsNone(shape_of(book("ab", "X = Y", "Y = X")))
        self.assertIsNone(shape_of(book("ab", "X = Y", "=")))

    def test_one_changed_symbol(self):
        for pattern in ["X = X", "X~ = Y~", "X = a", "a = X", "X =", "= X", "X Y = Y~ X", "X~ Y = Y X", "X Y = Y X a", "a X Y = Y X",
                        "X Y = Y~ X~ a", "X X = Y~ Y", "X X~ = Y Y~", "X~ X~ = Y Y", "X X = Y", "X Y = X Y", "X Y = X~ Z", "X Y = Z W",
                        "X Z = Z~ Y", "X a = a X", "X Y = a b", "=", "a = a", "X Y = Y~ X", "X Y~ = Y X~"]:
            self.assertIsNone(shape_of(book("ab", pattern)), pattern)

    def test_all_small_equations(self):
        met = {}
        for left, right in small_equations():
            asked = Book("ab", [(left, right)])
            found = shape_of(asked)
            self.assertEqual(found, plain_shape(asked), (left, right))
            if found is not None:
                met[found[0]] = True
        self.assertEqual(set(met), set(PATTERNS))

    def test_the_alphabet_has_no_effect(self):
        for letters in ["a", "abcd", "xz"]:
            self.assertEqual(shape_of(book(letters, "X = Y~")), ("mirror", ("X", "Y")))


if __name__ == "__main__":
    unittest.main()
