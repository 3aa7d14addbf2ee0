"""Point 145: saving and loading desks."""

import unittest

from tests.samples import Dice, all_samples, book
from tests.test_desk import add, desk_of, thrown_edit, told
from twiceeach.desk import Desk
from twiceeach.errors import BadBook, BadText, NothingToRedo, NothingToUndo
from twiceeach.keeping import first_walk
from twiceeach.papers import judge_walk
from twiceeach.texts import format_book

GOOD = "letters ab\nX a = Y\nY = Z\nlength X 3\nlength Y 0\nlength Z 30"


class Saving(unittest.TestCase):

    def test_small_desks(self):
        self.assertEqual(Desk("abc").save(), "letters abc")
        desk = desk_of("Y a = X", "=")
        self.assertEqual(desk.save(), "letters ab\nY a = X\n- = -")
        desk.edit(("tell", "Y", 0), ("tell", "X", 12))
        self.assertEqual(desk.save(), "letters ab\nY a = X\n- = -\nlength X 12\nlength Y 0")

    def test_the_book_and_then_the_lengths(self):
        for sample in all_samples()[:40]:
            desk = Desk(sample.letters)
            desk.edit(*[("add", left, right) for left, right in sample.equations])
            desk.edit(*[("tell", name, 3 * at) for at, name in enumerate(sample.pieces)][::-1])
            lines = [f"length {name} {3 * at}" for at, name in enumerate(sample.pieces)]
            self.assertEqual(desk.save(), "\n".join([format_book(sample), *lines]))


class Loading(unittest.TestCase):

    def assert_bad(self, text, line):
        with self.assertRaises(BadText) as caught:
            Desk.load(text)
        self.assertEqual(caught.exception.line, line, text)
        return caught.exception

    def test_small_desks(self):
        desk = Desk.load(GOOD)
        self.assertIsInstance(desk, Desk)
        self.assertEqual(told(desk)[:2], (book("ab", "X a = Y", "Y = Z"), {"X": 3, "Y": 0, "Z": 30}))
        self.assertEqual((desk.journal, desk.save()), ((), GOOD))
        self.assertEqual(told(Desk.load("letters a")), told(Desk("a")))
        self.assertEqual(told(Desk.load("letters ab\n- = -")), (book("ab", "="), {}, ((), ())))

    def test_a_loaded_desk_has_nothing_to_undo_or_redo(self):
        desk = Desk.load(GOOD)
        with self.assertRaises(NothingToUndo):
            desk.undo()
        with self.assertRaises(NothingToRedo):
            desk.redo()
        desk.edit(("forget", "X"))
        desk.undo()
        self.assertEqual((desk.save(), desk.journal), (GOOD, ("forget X", "undo")))

    def test_the_kept_walk_is_a_shortest_one(self):
        for sample in all_samples():
            desk = Desk.load(format_book(sample))
            found, least = desk.state().walk, first_walk(sample)
            self.assertIs(found is None, least is None)
            if least is not None:
                self.assertIs(judge_walk(sample, found), True)
                self.assertEqual(len(found[1]), len(least[1]))

    def test_lines_that_are_left_out_doubled_or_exchanged(self):
        for text, line in [
                ("X a = Y\nlength X 3", 1), ("letters ab\nX a = Y\nlength Z 3", 3), ("letters ab\nlength X 3\nX a = Y", 2),
                ("letters ab\nX a = Y\nlength X 3\nlength X 3", 4), ("letters ab\nX a = Y\nlength Y 3\nlength X 3", 4),
                ("letters ab\nX a = Y\nlength X 3\nY = X", 4), ("letters ab\nX a = Y\nlength X 3\nletters ab", 4),
                ("letters ab\nletters ab\nX a = Y", 2), ("length X 3\nletters ab\nX a = Y", 1), ("", 1), ("length X 3", 1),
                ("length\nlength X 1", 1), ("letters ab\nX a = Y\n\nlength X 3", 3), ("letters ab\nX a = Y\nlength X 3\n\nlength Y 3", 4)]:
            self.assert_bad(text, line)

    def test_spoilt_numbers(self):
        for number in ["31", "99", "100", "-1", "03", "00", "3.0", "+3", "", "x", "3x", "a", "1_0", "\u0663", "\u00b2", "9" * 5000, "30 ", " 3",
                       "0x1", "-0", "-"]:
            self.assert_bad("letters ab\nX a = Y\nlength X " + number, 3)
        for number in range(31):
            self.assertEqual(Desk.load(f"letters ab\nX a = Y\nlength X {number}").state().lengths, {"X": number})

    def test_spoilt_length_lines(self):
        for line in ["length", "length ", "length X", "length X ", "length X 3 ", "length  X 3", "length X  3", "length X 3 4", "length x 3",
                     "length X~ 3", "length X3", "length XXXXX 3", "length - 3", "length  3", "length X\t3"]:
            self.assert_bad("letters ab\nX a = Y\n" + line, 3)
            self.assert_bad("letters ab\nX a = Y\n" + line + "\nlength Y 3", 3)

    def test_lines_that_are_no_length_lines(self):
        for line in ["lengths X 3", " length X 3", "Length X 3", "length\tX 3", "lengthX 3", "le ngth X 3", "X 3"]:
            self.assert_bad("letters ab\nX a = Y\n" + line, 3)
            self.assert_bad("letters ab\n" + line + "\nX a = Y", 2)

    def test_spaces_and_line_feeds(self):
        for text, line in [(GOOD + "\n", 7), ("\n" + GOOD, 1), (GOOD.replace("\n", "\r\n"), 1), (GOOD + " ", 6), (" " + GOOD, 1),
                           (GOOD.replace("X a", "X  a"), 2), (GOOD.replace("\nlength X", "\n\nlength X"), 4), ("letters ab\n", 2)]:
            self.assert_bad(text, line)

    def test_the_book_comes_first(self):
        error = self.assert_bad("letters ab\nX c = Y\nlength Q 99", 0)
        self.assertIsInstance(error.__cause__, BadBook)
        self.assert_bad("letters ba\nX a = Y\nlength X 99", 0)
        self.assert_bad("letters ba\nlength X 3", 0)
        self.assert_bad("letters ab\nX X = X\nlength X 3\nlength", 0)
        self.assert_bad("letters ab\nX # = Y\nlength X 3", 0)
        self.assert_bad("letters ab\nX a  = Y\nlength X 99", 2)
        self.assert_bad("letters\nX a  = Y\nlength X 99", 1)
        self.assert_bad("letters ab\n" + "a = a\n" * 5 + "length X 3", 0)

    def test_saved_desks_are_loaded_again(self):
        dice = Dice(5)
        for _ in range(30):
            desk = Desk("ab")
            for _ in range(12):
                try:
                    desk.edit(thrown_edit(dice, desk.state()))
                except ValueError:
                    pass
            loaded = Desk.load(desk.save())
            self.assertEqual(told(loaded)[:2], told(desk)[:2])
            self.assertEqual((loaded.save(), loaded.verdict(), loaded.number()), (desk.save(), desk.verdict(), desk.number()))
            self.assertEqual(loaded.fillings(most=3), desk.fillings(most=3))
            for _ in range(5):
                edit = thrown_edit(dice, desk.state())
                self.assertEqual(self.refused(loaded, edit), self.refused(desk, edit))
                self.assertEqual(told(loaded)[:2], told(desk)[:2])

    def refused(self, desk, edit):
        """The error of an edit, with its fields, or None."""
        try:
            desk.edit(edit)
        except ValueError as error:
            return type(error), vars(error)
        return None

    def test_edits_behind_loading(self):
        desk = Desk.load(GOOD)
        desk.edit(("drop", 1), add("b = X"))
        self.assertEqual((desk.save(), desk.journal), ("letters ab\nX a = Y\nb = X\nlength X 3\nlength Y 0", ("drop 1", "add b = X")))


if __name__ == "__main__":
    unittest.main()
