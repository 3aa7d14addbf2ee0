"""Points 141 to 144: twiceeach.states and twiceeach.desk, but for saving and loading."""

import itertools
import unittest

from tests.samples import Dice, book
from twiceeach.books import Book
from twiceeach.desk import Desk
from twiceeach.errors import (BadEdit, BadLengths, BadLetters, BadNames, BadSymbol, NoSuchEquation, NoSuchPiece, NothingToRedo,
                              NothingToUndo, StandsThrice, TooLarge)
from twiceeach.gluing import Gluing
from twiceeach.keeping import first_walk, kept_walk, renamed_walk
from twiceeach.letting import let_lengths
from twiceeach.listing import fillings
from twiceeach.names import renamed
from twiceeach.papers import judge_walk
from twiceeach.states import DeskState
from twiceeach.symbols import name_of
from twiceeach.useful import verdict


def add(equation):
    """The edit that adds an equation that is written as "X a = a X"."""
    left, right = equation.split("=")
    return "add", tuple(left.split()), tuple(right.split())


def desk_of(*equations):
    """A desk over ab with the equations."""
    desk = Desk("ab")
    desk.edit(*[add(equation) for equation in equations])
    return desk


def told(desk):
    """All that the state tells."""
    state = desk.state()
    return state.book, state.lengths, state.walk


def whole(desk):
    """All that a desk tells."""
    return told(desk), desk.journal, desk.verdict(), desk.number(), desk.save()


class DeskCase(unittest.TestCase):

    def assert_refused(self, desk, error, *edits, **fields):
        """The call raises just this error, with these fields, and changes nothing."""
        before = whole(desk)
        with self.assertRaises(error) as caught:
            desk.edit(*edits)
        self.assertIs(type(caught.exception), error)
        self.assertEqual(vars(caught.exception), fields)
        self.assertEqual(whole(desk), before)


class NewDesks(DeskCase):

    def test_a_new_desk(self):
        desk = Desk("ab")
        self.assertEqual(told(desk), (Book("ab"), {}, ((), ())))
        self.assertEqual((desk.journal, desk.verdict(), desk.number(), desk.save()), ((), "finite", 1, "letters ab"))
        self.assertEqual((desk.fillings(most=3), desk.let_lengths(most=3)), ([{}], [{}]))
        self.assertIsInstance(desk.state(), DeskState)

    def test_bad_alphabets(self):
        for letters in ["", "ba", "aa", "abcde", "A", "a b"]:
            with self.assertRaises(BadLetters) as caught:
                Desk(letters)
            self.assertEqual(caught.exception.letters, letters)

    def test_nothing_to_undo_or_redo(self):
        desk = Desk("ab")
        for call, error in [(desk.undo, NothingToUndo), (desk.redo, NothingToRedo)]:
            with self.assertRaises(error) as caught:
                call()
            self.assertIs(type(caught.exception), error)
        self.assertEqual(whole(desk), whole(Desk("ab")))

    def test_a_state_copies_what_it_is_given(self):
        lengths = {"Y": 1, "X": 2}
        state = DeskState(book("ab", "X = Y"), lengths, None)
        self.assertEqual((list(state.lengths.items()), state.book, state.walk), ([("X", 2), ("Y", 1)], book("ab", "X = Y"), None))
        lengths["X"] = 9
        self.assertEqual(state.lengths, {"X": 2, "Y": 1})


class Edits(DeskCase):

    def test_adding(self):
        desk = Desk("ab")
        self.assertIsNone(desk.edit(("add", ["X", "a"], ("a", "X"))))
        self.assertEqual(told(desk), (book("ab", "X a = a X"), {}, (("X",), ())))
        desk.edit(("add", (), []), ("add", ("Y",), ("b",)))
        self.assertEqual(desk.state().book, book("ab", "X a = a X", "=", "Y = b"))
        self.assertEqual(desk.journal, ("add X a = a X", "add - = -", "add Y = b"))

    def test_what_adding_raises(self):
        desk = desk_of("X = Y", "X a = Z", "Z = Y", "=")
        self.assert_refused(desk, TooLarge, add("X = c"), what="equations", limit=4)
        desk = desk_of("X = Y", "X a = Z")
        self.assert_refused(desk, BadSymbol, add("c X = X X X"), symbol="c")
        self.assert_refused(desk, BadSymbol, add("a # = Y"), symbol="#")
        self.assert_refused(desk, StandsThrice, add("Y Z = X Y"), name="X")
        self.assert_refused(desk, TooLarge, add("X " + "a " * 18 + "= Y"), what="symbols", limit=24)
        self.assert_refused(desk, TooLarge, add("A B C = D"), what="pieces", limit=6)

    def test_dropping(self):
        desk = desk_of("X = Y", "Y = a Z", "Z = b")
        desk.edit(("tell", "X", 2), ("tell", "Z", 1), ("tell", "Y", 2))
        desk.edit(("drop", 0))
        self.assertEqual(told(desk)[:2], (book("ab", "Y = a Z", "Z = b"), {"Y": 2, "Z": 1}))
        desk.edit(("drop", 1))
        self.assertEqual(told(desk)[:2], (book("ab", "Y = a Z"), {"Y": 2, "Z": 1}))
        desk.edit(("drop", 0))
        self.assertEqual(told(desk), (Book("ab"), {}, ((), ())))
        self.assertEqual(desk.journal[-3:], ("drop 0", "drop 1", "drop 0"))

    def test_a_length_that_is_forgotten_stays_so(self):
        desk = desk_of("X = a")
        desk.edit(("tell", "X", 1), ("drop", 0), add("X = a"))
        self.assertEqual(desk.state().lengths, {})

    def test_what_dropping_raises(self):
        desk = desk_of("X = Y", "Y = a")
        for number in (2, 3, -1, -2, 100):
            self.assert_refused(desk, NoSuchEquation, ("drop", number), number=number)
        self.assert_refused(Desk("ab"), NoSuchEquation, ("drop", 0), number=0)

    def test_telling_and_forgetting(self):
        desk = desk_of("Y = X", "X = Z")
        desk.edit(("tell", "Y", 30), ("tell", "X", 0))
        self.assertEqual(list(desk.state().lengths.items()), [("X", 0), ("Y", 30)])
        desk.edit(("tell", "Y", 4))
        self.assertEqual(desk.state().lengths, {"X": 0, "Y": 4})
        desk.edit(("forget", "X"))
        self.assertEqual(desk.state().lengths, {"Y": 4})
        self.assertEqual(desk.journal[2:], ("tell Y 30", "tell X 0", "tell Y 4", "forget X"))

    def test_what_telling_raises(self):
        desk = desk_of("Y = X")
        for name in ["Z", "", "x", "X~", "X Y", "XXXXX"]:
            for length in (3, -1, 31):
                self.assert_refused(desk, NoSuchPiece, ("tell", name, length), name=name)
        for length in (-1, 31, 1000, -30):
            self.assert_refused(desk, BadLengths, ("tell", "X", length), name="X")

    def test_what_forgetting_raises(self):
        desk = desk_of("Y = X")
        desk.edit(("tell", "X", 3))
        for name in ["Y", "Z", "", "X~"]:
            self.assert_refused(desk, NoSuchPiece, ("forget", name), name=name)
        self.assert_refused(desk, NoSuchPiece, ("forget", "X"), ("forget", "X"), name="X")

    def test_renaming(self):
        desk = desk_of("X a = Y~", "Y = b")
        desk.edit(("tell", "X", 0), ("tell", "Y", 1))
        walk = desk.state().walk
        table = {"X": "Y~", "Y": "B"}
        desk.edit(("rename", table))
        self.assertEqual(told(desk)[:2], (book("ab", "Y~ a = B~", "B = b"), {"Y": 0, "B": 1}))
        self.assertEqual(list(desk.state().lengths), ["B", "Y"])
        self.assertEqual(desk.state().walk, None if walk is None else renamed_walk(walk, table))
        self.assertEqual(desk.journal[-1], "rename X Y~ Y B")
        self.assertEqual(table, {"X": "Y~", "Y": "B"})

    def test_the_parts_of_a_rename_are_in_ascending_order(self):
        desk = desk_of("Z = B1 B")
        desk.edit(("rename", {"Z": "A", "B1": "C~", "B": "Z"}))
        self.assertEqual(desk.journal[-1], "rename B Z B1 C~ Z A")
        desk = Desk("ab")
        desk.edit(("rename", {}))
        self.assertEqual(desk.journal, ("rename",))

    def test_a_renamed_walk_is_kept(self):
        desk = desk_of("X a = a X", "Y = b")
        desk.edit(("rename", {"X": "Q~", "Y": "X~"}))
        self.assertEqual(desk.state().book, book("ab", "Q~ a = a Q~", "X~ = b"))
        self.assertEqual(desk.state().walk, (("Q",), (("is", "X~", "b"),)))

    def test_what_renaming_raises(self):
        desk = desk_of("X = Y", "Z = a")
        for table, name in [({"X": "A", "Y": "B"}, "Z"), ({}, "X"), ({"X": "A", "Y": "B", "Z": "C", "W": "D"}, "W"),
                            ({"X": "A", "Y": "A~", "Z": "C"}, "Y"), ({"X": "A", "Y": "b", "Z": "C"}, "Y"), ({"X": "", "Y": "", "Z": ""}, "X"),
                            ({"X": "A", "Y": "B", "Z": "A"}, "Z"), ({"A": "X", "X": "A", "Y": "B", "Z": "C"}, "A")]:
            self.assert_refused(desk, BadNames, ("rename", table), name=name)
        self.assert_refused(Desk("ab"), BadNames, ("rename", {"X": "Y"}), name="X")

    def test_tuples_that_are_no_edits(self):
        desk = desk_of("X = Y")
        desk.edit(("tell", "X", 3))
        for edit in [(), ("add",), ("add", ("X",)), ("add", ("X",), ("X",), ()), ("drop",), ("drop", 0, 1), ("tell", "X"), ("tell", "X", 1, 2),
                     ("forget",), ("forget", "X", "Y"), ("rename",), ("rename", {}, {}), ("undo",), ("redo",), ("told", "X", 3), ("", 0),
                     ("Add", (), ()), ("add ", (), ()), (0, 0), (("add",), (), ()), ("drop", 7, 7), ("tell", "Q"), ("rename", {"X": 1}, 2)]:
            self.assert_refused(desk, BadEdit, edit)

    def test_a_call_with_a_bad_edit_behind_good_ones(self):
        desk = desk_of("X = Y")
        self.assert_refused(desk, BadEdit, add("Z = a"), ("tell", "Z", 1), ("drop",))
        self.assert_refused(desk, NoSuchEquation, ("drop", 0), ("drop", 0), ("nothing",), number=0)
        self.assert_refused(desk, NoSuchPiece, ("drop", 0), ("tell", "X", 3), name="X")
        self.assert_refused(desk, BadLengths, ("tell", "X", 3), ("tell", "Y", 31), ("tell", "Z", 1), name="Y")
        self.assert_refused(desk, BadEdit, (), ("drop", 9))

    def test_what_it_is_given_is_copied(self):
        left, right, table = ["X"], ["a", "X"], {"X": "Z"}
        desk = Desk("ab")
        desk.edit(("add", left, right))
        desk.edit(("rename", table))
        found = whole(desk)
        left.append("b")
        right.clear()
        table["X"] = "W"
        self.assertEqual((whole(desk), desk.journal), (found, ("add X = a X", "rename X Z")))

    def test_changing_an_answer_has_no_effect(self):
        desk = desk_of("X = Y")
        desk.edit(("tell", "X", 1))
        found = whole(desk)
        desk.state().lengths["X"] = 7
        desk.state().lengths.clear()
        desk.fillings(most=2)[0].clear()
        desk.fillings(most=2).clear()
        desk.let_lengths(most=2)[0]["X"] = 9
        desk.let_lengths(most=2).clear()
        self.assertEqual(whole(desk), found)
        self.assertEqual(desk.let_lengths(most=2), [{"X": 1, "Y": 1}])

    def test_a_state_stays_as_it_was(self):
        desk = desk_of("X = Y")
        state = desk.state()
        desk.edit(("tell", "X", 1), ("drop", 0))
        self.assertEqual((state.book, state.lengths), (book("ab", "X = Y"), {}))


class KeptWalks(DeskCase):

    def test_a_walk_that_is_one_of_the_changed_book(self):
        desk = desk_of("X = a")
        walk = desk.state().walk
        desk.edit(add("a = a"), add("b X = b a"))
        self.assertEqual(desk.state().walk, walk)
        desk.edit(("drop", 0))
        self.assertEqual(desk.state().walk, walk)

    def test_a_walk_that_is_not_one_of_the_changed_book(self):
        desk = desk_of("X = Y")
        self.assertEqual(desk.state().walk, (("X", "Y"), ()))
        desk.edit(add("Y = a a"))
        self.assertIs(judge_walk(desk.state().book, desk.state().walk), True)
        self.assertEqual(len(desk.state().walk[1]), len(first_walk(desk.state().book)[1]))
        desk.edit(("drop", 1))
        self.assertEqual(desk.state().walk, (("X", "Y"), ()))

    def test_a_longer_walk_is_kept_where_a_shorter_one_is_there_too(self):
        desk = desk_of("X a = a Y", "X Y = a a")
        longer = ((), (("is", "X", "a"), ("is", "Y", "a")))
        self.assertEqual(desk.state().walk, longer)
        desk.edit(("drop", 1))
        self.assertEqual(desk.state().walk, longer)
        self.assertEqual(first_walk(desk.state().book), (("X", "Y"), ()))

    def test_a_book_without_walks(self):
        desk = desk_of("X a = b X")
        self.assertEqual((desk.state().walk, desk.verdict()), (None, "none"))
        desk.edit(add("Y = a"), ("tell", "X", 1), ("rename", {"X": "Y", "Y": "X~"}))
        self.assertIsNone(desk.state().walk)
        desk.edit(("drop", 0))
        self.assertEqual(desk.state().walk, ((), (("is", "X~", "a"),)))

    def test_the_edits_of_one_call_keep_it_one_by_one(self):
        desk = desk_of("X = a")
        desk.edit(add("a = b"), ("drop", 1))
        self.assertEqual(desk.state().walk, first_walk(book("ab", "X = a")))


class UndoAndRedo(DeskCase):

    def test_there_and_back(self):
        desk = Desk("ab")
        states = [told(desk)]
        for edits in [(add("X = Y"),), (("tell", "X", 3), ("tell", "Y", 3)), (), (("rename", {"X": "A~", "Y": "B"}),), (("drop", 0),)]:
            desk.edit(*edits)
            states.append(told(desk))
        lines = desk.journal
        for state in states[-2::-1]:
            self.assertIsNone(desk.undo())
            self.assertEqual(told(desk), state)
        with self.assertRaises(NothingToUndo):
            desk.undo()
        for state in states[1:]:
            self.assertIsNone(desk.redo())
            self.assertEqual(told(desk), state)
        with self.assertRaises(NothingToRedo):
            desk.redo()
        self.assertEqual(desk.journal, lines + ("undo",) * 5 + ("redo",) * 5)

    def test_a_call_without_edits_can_be_undone_and_leaves_nothing_to_redo(self):
        desk = desk_of("X = Y")
        desk.edit(("tell", "X", 3))
        desk.undo()
        desk.edit()
        with self.assertRaises(NothingToRedo):
            desk.redo()
        self.assertEqual(desk.state().lengths, {})
        desk.undo()
        self.assertEqual(desk.state().book, book("ab", "X = Y"))
        desk.undo()
        self.assertEqual(desk.state().book, Book("ab"))
        with self.assertRaises(NothingToUndo):
            desk.undo()
        desk.redo()
        desk.redo()
        with self.assertRaises(NothingToRedo):
            desk.redo()
        self.assertEqual(desk.journal, ("add X = Y", "tell X 3", "undo", "undo", "undo", "redo", "redo"))

    def test_a_refused_call_changes_nothing_of_it(self):
        desk = desk_of("X = Y")
        desk.edit(("tell", "X", 3))
        desk.undo()
        self.assert_refused(desk, BadEdit, ("tell", "Y", 1), ())
        desk.redo()
        self.assertEqual(desk.state().lengths, {"X": 3})
        self.assert_refused(desk, NoSuchPiece, ("forget", "Y"), name="Y")
        desk.undo()
        self.assertEqual((desk.state().lengths, desk.journal), ({}, ("add X = Y", "tell X 3", "undo", "redo", "undo")))

    def test_an_edit_behind_an_undo(self):
        desk = desk_of("X = Y")
        desk.edit(("tell", "X", 3))
        desk.undo()
        desk.edit(("tell", "Y", 1))
        with self.assertRaises(NothingToRedo):
            desk.redo()
        desk.undo()
        self.assertEqual(desk.state().lengths, {})
        desk.redo()
        self.assertEqual(desk.state().lengths, {"Y": 1})


class Numbers(DeskCase):

    def test_all_lengths_told_and_some_and_none(self):
        desk = desk_of("X Y = Y X")
        self.assertIsNone(desk.number())
        desk.edit(("tell", "X", 2))
        self.assertIsNone(desk.number())
        desk.edit(("tell", "Y", 4))
        self.assertEqual(desk.number(), 4)
        desk.edit(("tell", "Y", 3))
        self.assertEqual(desk.number(), 2)
        desk.edit(("forget", "X"))
        self.assertIsNone(desk.number())

    def test_a_desk_without_pieces(self):
        self.assertEqual(desk_of("a b = a b").number(), 1)
        self.assertEqual(desk_of("a b = b a").number(), 0)
        self.assertEqual(desk_of("a = a a").number(), 0)

    def test_lengths_that_no_filling_has(self):
        desk = desk_of("X a = a Y")
        desk.edit(("tell", "X", 1), ("tell", "Y", 2))
        self.assertEqual((desk.number(), desk.fillings(most=9), desk.let_lengths(most=9)), (0, [], []))

    def test_the_listed_fillings_with_the_told_lengths(self):
        for equation in ["X Y = Y X", "X a = Y X~", "X Y = Z a", "X X = Y Y~"]:
            made = book("ab", equation)
            all_listed, all_let = fillings(made, most=6), let_lengths(made, most=6)
            for lengths in itertools.product([None, 0, 1, 2], repeat=len(made.pieces)):
                some = {name: length for name, length in zip(made.pieces, lengths) if length is not None}
                desk = desk_of(equation)
                desk.edit(*[("tell", name, length) for name, length in some.items()])
                fit = [one for one in all_listed if all(len(one[name]) == some[name] for name in some)]
                self.assertEqual(desk.fillings(most=6), fit)
                self.assertTrue(all(list(one) == list(made.pieces) for one in desk.fillings(most=6)))
                self.assertEqual(desk.let_lengths(most=6), [one for one in all_let if all(one[name] == some[name] for name in some)])
                if len(some) == len(made.pieces):
                    self.assertEqual((desk.number(), len(fit)), (Gluing(made, some).many, desk.number()))
                else:
                    self.assertIsNone(desk.number())

    def test_most_0_12_and_13(self):
        desk = desk_of("X = Y")
        desk.edit(("tell", "X", 6))
        self.assertEqual((desk.fillings(most=0), desk.let_lengths(most=11)), ([], []))
        self.assertEqual((len(desk.fillings(most=12)), desk.let_lengths(most=12)), (64, [{"X": 6, "Y": 6}]))
        for call in (desk.fillings, desk.let_lengths):
            with self.assertRaises(TooLarge) as caught:
                call(most=13)
            self.assertEqual((caught.exception.what, caught.exception.limit), ("most", 12))

    def test_the_verdict(self):
        for equation in ["X = Y", "X = a", "a = b", "X a = b X", "X Y = a b", "= "]:
            desk = desk_of(equation)
            self.assertEqual(desk.verdict(), verdict(desk.state().book))


def thrown_edit(dice, state):
    """An edit that looks like a thrown one; some of them are refused."""
    names = ["X", "Y", "Z", "W~"]
    word = dice.below(6)
    if word < 2:
        symbols = ["a", "b", "X", "Y", "Y~", "Z"]
        left, right = [[symbols[dice.below(6)] for _ in range(dice.below(3))] for _ in range(2)]
        return "add", left, right
    if word == 2:
        return "drop", dice.below(3)
    if word == 3:
        return "tell", names[dice.below(4)], dice.below(34) - 1
    if word == 4:
        return "forget", names[dice.below(4)]
    return "rename", {name: names[(at + dice.below(2)) % 4] for at, name in enumerate(state.book.pieces)}


def plainly_edited(state, edit):
    """The book, the lengths and the walk behind an edit, by the words of point 142, or None if it is refused."""
    made, lengths, walk = state
    word, *parts = edit
    if word == "add":
        try:
            made = Book(made.letters, [*made.equations, parts])
        except ValueError:
            return None
        return made, lengths, kept_walk(made, walk)
    if word == "drop":
        if parts[0] >= len(made.equations):
            return None
        rest = [one for at, one in enumerate(made.equations) if at != parts[0]]
        made = Book(made.letters, rest)
        return made, {name: lengths[name] for name in lengths if name in made.pieces}, kept_walk(made, walk)
    if word == "tell":
        fits = parts[0] in made.pieces and 0 <= parts[1] <= 30
        return (made, {**lengths, parts[0]: parts[1]}, walk) if fits else None
    if word == "forget":
        return (made, {name: lengths[name] for name in lengths if name != parts[0]}, walk) if parts[0] in lengths else None
    table = parts[0]
    if len({name_of(worth) for worth in table.values()}) < len(table) or set(table) != set(made.pieces):
        return None
    return (renamed(made, table), {name_of(table[name]): lengths[name] for name in lengths},
            None if walk is None else renamed_walk(walk, table))


class ManyEdits(DeskCase):

    def test_thrown_calls(self):
        dice = Dice(71)
        for _ in range(60):
            desk = Desk("ab")
            past, future, now = [], [], told(desk)
            for _ in range(25):
                if dice.below(4) == 0:
                    past, future, now = self.undone(desk, past, future, now, dice.below(2))
                else:
                    edits = [thrown_edit(dice, desk.state()) for _ in range(1 + dice.below(2))]
                    after = now
                    for edit in edits:
                        after = None if after is None else plainly_edited(after, edit)
                    if after is None:
                        with self.assertRaises(ValueError):
                            desk.edit(*edits)
                    else:
                        desk.edit(*edits)
                        past, future, now = [*past, now], [], after
                self.assertEqual(told(desk), now)
                self.assertIs(now[2] is None, desk.verdict() == "none")
                self.assertTrue(now[2] is None or judge_walk(now[0], now[2]))

    def undone(self, desk, past, future, now, back):
        """An undo or a redo, and the states behind it."""
        if back and past:
            desk.undo()
            return past[:-1], [*future, now], past[-1]
        if not back and future:
            desk.redo()
            return [*past, now], future[:-1], future[-1]
        with self.assertRaises(NothingToUndo if back else NothingToRedo):
            desk.undo() if back else desk.redo()
        return past, future, now


if __name__ == "__main__":
    unittest.main()
