"""Point 146: twiceeach.deskreport."""

import unittest

from tests.samples import all_samples
from tests.test_desk import desk_of
from twiceeach.desk import Desk
from twiceeach.deskreport import report


def plain_report(desk):
    """The report, by the words of point 146."""
    state = desk.state()
    symbols = [symbol for left, right in state.book.equations for symbol in left + right]
    lines = []
    for name in state.book.pieces:
        many = sum(symbol.rstrip("~") == name for symbol in symbols)
        lines.append([name.ljust(4), str(many).rjust(2), str(state.lengths.get(name, "-")).rjust(3)])
    number = desk.number()
    lines.append([desk.verdict().ljust(7), str(len(state.book.equations)).rjust(2), str(len(symbols)).rjust(3),
                  ("-" if number is None else str(number)).rjust(9)])
    return "\n".join(" ".join(line) for line in lines)


class Reports(unittest.TestCase):

    def test_a_new_desk(self):
        self.assertEqual(report(Desk("ab")), "finite   0   0         1")

    def test_small_desks(self):
        desk = desk_of("X a = a X", "Ab1 = Y~")
        self.assertEqual(report(desk), "Ab1   1   -\nX     2   -\nY     1   -\nendless  2   6         -")
        desk.edit(("tell", "X", 3), ("tell", "Ab1", 30), ("tell", "Y", 30))
        self.assertEqual(report(desk), "Ab1   1  30\nX     2   3\nY     1  30\nendless  2   6 1073741824")
        self.assertEqual(report(desk_of("a = b")), "none     1   2         0")
        self.assertEqual(report(desk_of("X = a b")), "X     1   -\nfinite   1   3         -")

    def test_long_entries(self):
        desk = desk_of("Abc1 = Bcd2", "Cde3 = Def4", "Efg5 = Fgh6")
        desk.edit(*[("tell", name, 30) for name in desk.state().book.pieces])
        lines = report(desk).split("\n")
        self.assertEqual(lines[:2], ["Abc1  1  30", "Bcd2  1  30"])
        self.assertEqual(lines[-1], "endless  3   6 " + str(2 ** 90))

    def test_twenty_four_symbols(self):
        desk = desk_of("a " * 12 + "= " + "a " * 12)
        self.assertEqual(report(desk), "finite   1  24         1")

    def test_by_the_words_of_the_point(self):
        for sample in all_samples():
            desk = Desk(sample.letters)
            desk.edit(*[("add", left, right) for left, right in sample.equations])
            self.assertEqual(report(desk), plain_report(desk))
            desk.edit(*[("tell", name, 7 * at % 31) for at, name in enumerate(sample.pieces[1:])])
            self.assertEqual(report(desk), plain_report(desk))
            desk.edit(*[("tell", name, 5) for name in sample.pieces[:1]])
            self.assertEqual(report(desk), plain_report(desk))

    def test_the_desk_is_not_changed(self):
        desk = desk_of("X = Y")
        found = desk.save(), desk.journal
        report(desk)
        self.assertEqual((desk.save(), desk.journal), found)


if __name__ == "__main__":
    unittest.main()
