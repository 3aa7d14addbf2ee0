"""Points 55 to 60: twiceeach.gluing and twiceeach.sure."""

import itertools
import unittest

from tests.samples import all_samples, book, search
from twiceeach.books import Book
from twiceeach.errors import BadLengths, BadSymbol, NoFilling, TooLarge
from twiceeach.gluing import Gluing, check_lengths
from twiceeach.sure import sure_letters


def lengths_up_to(sample, most):
    """All lengths for the book from 0 to `most`."""
    return [dict(zip(sample.pieces, chosen)) for chosen in itertools.product(range(most + 1), repeat=len(sample.pieces))]


def with_lengths(sample, lengths):
    """All fillings with the lengths that fill the book, by plain search."""
    found = search(sample, sum(lengths.values()))
    return [one for one in found if all(len(one[name]) == lengths[name] for name in lengths)]


class Lengths(unittest.TestCase):

    def setUp(self):
        self.book = book("ab", "X a = a Y")

    def test_lengths_that_fit(self):
        self.assertIsNone(check_lengths(self.book, {"Y": 30, "X": 0}))
        self.assertIsNone(check_lengths(Book("ab"), {}))

    def test_lengths_that_do_not_fit(self):
        for lengths, name in [({}, "X"), ({"X": 1}, "Y"), ({"Y": 1}, "X"), ({"X": -1, "Y": 0}, "X"), ({"X": 0, "Y": 31}, "Y"),
                              ({"X": 31, "Y": -1}, "X"), ({"A": 1, "X": 1, "Y": 1}, "A"), ({"X": 1, "Y": 1, "Z": 1}, "Z"),
                              ({"X": 1, "X~": 1, "Y": 1}, "X~"), ({"Y": 31, "Z": 1, "X": 1}, "Y"), ({"Y": -100, "X": 100}, "X")]:
            for call in (check_lengths, Gluing, sure_letters):
                with self.subTest((call.__name__, lengths)), self.assertRaises(BadLengths) as caught:
                    call(self.book, lengths)
                self.assertEqual(caught.exception.name, name)

    def test_a_book_without_pieces_has_no_names(self):
        with self.assertRaises(BadLengths) as caught:
            check_lengths(Book("ab"), {"X": 0})
        self.assertEqual(caught.exception.name, "X")


class Classes(unittest.TestCase):

    def test_a_small_gluing(self):
        gluing = Gluing(book("ab", "X b = Y X~"), {"X": 2, "Y": 1}, told={("X", 1): "a"})
        self.assertEqual(gluing.lots, (((("X", 0), ("Y", 0)), ("b",)), ((("X", 1),), ("a",))))
        self.assertEqual((gluing.uneven, gluing.clash, gluing.many, gluing.free_lots), (False, False, 1, ()))
        self.assertEqual(gluing.fillings(), [{"X": "ba", "Y": "b"}])

    def test_places_are_glued_in_order_and_turned(self):
        gluing = Gluing(book("ab", "X Y~ = Y X"), {"X": 2, "Y": 1})
        self.assertEqual(gluing.lots, (((("X", 0), ("X", 1), ("Y", 0)), ()),))
        gluing = Gluing(book("ab", "X = Y~"), {"X": 3, "Y": 3})
        self.assertEqual(gluing.lots, (((("X", 0), ("Y", 2)), ()), ((("X", 1), ("Y", 1)), ()), ((("X", 2), ("Y", 0)), ())))
        gluing = Gluing(book("ab", "X = Y"), {"X": 2, "Y": 2})
        self.assertEqual(gluing.lots, (((("X", 0), ("Y", 0)), ()), ((("X", 1), ("Y", 1)), ())))
        gluing = Gluing(book("ab", "X = X~"), {"X": 3})
        self.assertEqual(gluing.lots, (((("X", 0), ("X", 2)), ()), ((("X", 1),), ())))

    def test_places_are_glued_through_other_places(self):
        gluing = Gluing(book("ab", "X = Y", "Y = Z", "Z~ = A"), {"X": 2, "Y": 2, "Z": 2, "A": 2})
        self.assertEqual(gluing.lots, (((("A", 0), ("X", 1), ("Y", 1), ("Z", 1)), ()), ((("A", 1), ("X", 0), ("Y", 0), ("Z", 0)), ())))

    def test_the_order_of_places_is_that_of_tuples(self):
        gluing = Gluing(book("ab", "X X = X1 Y"), {"X": 11, "X1": 11, "Y": 11})
        self.assertEqual(gluing.lots[1][0], (("X", 1), ("X1", 1), ("Y", 1)))
        self.assertEqual(gluing.lots[10][0], (("X", 10), ("X1", 10), ("Y", 10)))

    def test_a_letter_does_not_join_places(self):
        gluing = Gluing(book("ab", "X = a a"), {"X": 2})
        self.assertEqual(gluing.lots, (((("X", 0),), ("a",)), ((("X", 1),), ("a",))))
        gluing = Gluing(book("ab", "X = a", "Y = a"), {"X": 1, "Y": 1})
        self.assertEqual(gluing.lots, (((("X", 0),), ("a",)), ((("Y", 0),), ("a",))))

    def test_letters_have_no_duplicates(self):
        gluing = Gluing(book("ab", "X = a", "a = X"), {"X": 1}, told={("X", 0): "a"})
        self.assertEqual((gluing.lots, gluing.clash, gluing.many), ((((("X", 0),), ("a",)),), False, 1))

    def test_clashes(self):
        gluing = Gluing(book("abc", "X = c", "a = X"), {"X": 1})
        self.assertEqual((gluing.lots, gluing.clash, gluing.many, gluing.fillings()), ((((("X", 0),), ("a", "c")),), True, 0, []))
        gluing = Gluing(book("abc", "X = Y", "X = b a", "Y = b c"), {"X": 2, "Y": 2})
        self.assertEqual(gluing.lots, (((("X", 0), ("Y", 0)), ("b",)), ((("X", 1), ("Y", 1)), ("a", "c"))))
        self.assertEqual((gluing.clash, gluing.many), (True, 0))

    def test_letters_and_places_of_a_class_are_in_ascending_order(self):
        asked = book("abcd", "Y = X", "Y = c", "X = a")
        gluing = Gluing(asked, {"X": 1, "Y": 1}, told={("Y", 0): "b", ("X", 0): "d"})
        self.assertEqual(gluing.lots, (((("X", 0), ("Y", 0)), ("a", "b", "c", "d")),))
        gluing = Gluing(asked, {"X": 1, "Y": 1}, told={("X", 0): "b"})
        self.assertEqual(gluing.lots, (((("X", 0), ("Y", 0)), ("a", "b", "c")),))

    def test_letters_that_clash_with_letters(self):
        gluing = Gluing(book("ab", "a X = b X"), {"X": 1})
        self.assertEqual((gluing.uneven, gluing.clash, gluing.many, gluing.fillings()), (False, True, 0, []))
        self.assertEqual((gluing.lots, gluing.free_lots), ((((("X", 0),), ()),), (((("X", 0),), ()),)))
        gluing = Gluing(book("ab", "a = b"), {})
        self.assertEqual((gluing.lots, gluing.clash, gluing.many), ((), True, 0))
        gluing = Gluing(book("ab", "a b = a b"), {})
        self.assertEqual((gluing.lots, gluing.clash, gluing.many, gluing.fillings()), ((), False, 1, [{}]))

    def test_uneven_lengths(self):
        gluing = Gluing(book("ab", "a X = b Y", "X = Y"), {"X": 2, "Y": 1}, told={("X", 0): "b"})
        self.assertEqual((gluing.uneven, gluing.clash, gluing.lots, gluing.free_lots), (True, False, (), ()))
        self.assertEqual((gluing.many, gluing.fillings()), (0, []))
        self.assertEqual((gluing.lot_at(("X", 0)), gluing.letter_at(("X", 0))), (None, None))

    def test_each_equation_has_to_be_even(self):
        self.assertIs(Gluing(book("ab", "X = Y a", "Y a = X"), {"X": 2, "Y": 1}).uneven, False)
        self.assertIs(Gluing(book("ab", "X = Y a", "Y = X a"), {"X": 2, "Y": 1}).uneven, True)
        self.assertIs(Gluing(book("ab", "X =", "= a a"), {"X": 2}).uneven, True)

    def test_books_without_equations(self):
        gluing = Gluing(Book("ab"), {})
        self.assertEqual((gluing.uneven, gluing.clash, gluing.lots, gluing.many, gluing.fillings()), (False, False, (), 1, [{}]))

    def test_lots_at_places(self):
        gluing = Gluing(book("ab", "X b = Y X~"), {"X": 2, "Y": 1})
        self.assertEqual([gluing.lot_at(place) for place in [("X", 0), ("X", 1), ("Y", 0)]], [0, 1, 0])
        self.assertEqual([gluing.letter_at(place) for place in [("X", 0), ("X", 1), ("Y", 0)]], ["b", None, "b"])

    def test_a_class_with_two_letters_has_no_letter(self):
        gluing = Gluing(book("ab", "X = a", "X = b"), {"X": 1})
        self.assertEqual((gluing.lot_at(("X", 0)), gluing.letter_at(("X", 0))), (0, None))

    def test_what_is_no_place(self):
        for gluing in [Gluing(book("ab", "X b = Y X~"), {"X": 2, "Y": 1}), Gluing(book("ab", "X = Y"), {"X": 2, "Y": 1})]:
            for place in [("X", 2), ("X", -1), ("Y", 1), ("Z", 0), ("X~", 0), ("", 0), ("a", 0), ("X", 30)]:
                for call in (gluing.lot_at, gluing.letter_at):
                    with self.subTest(place), self.assertRaises(BadLengths) as caught:
                        call(place)
                    self.assertEqual(caught.exception.name, place[0])

    def test_a_gluing_copies_what_it_is_given(self):
        lengths, told = {"X": 2, "Y": 1}, {("X", 1): "a"}
        gluing = Gluing(book("ab", "X b = Y X~"), lengths, told=told)
        lengths["X"] = 1
        lengths["Z"] = 3
        told[("X", 1)] = "b"
        told[("Y", 0)] = "a"
        self.assertEqual((gluing.many, gluing.fillings(), gluing.letter_at(("X", 1))), (1, [{"X": "ba", "Y": "b"}], "a"))
        with self.assertRaises(BadLengths):
            gluing.lot_at(("Z", 0))

    def test_the_arguments_stay(self):
        lengths, told = {"Y": 1, "X": 2}, {("X", 1): "a"}
        Gluing(book("ab", "X b = Y X~"), lengths, told=told).fillings()
        sure_letters(book("ab", "X b = Y X~"), lengths)
        self.assertEqual((list(lengths.items()), told), ([("Y", 1), ("X", 2)], {("X", 1): "a"}))


class Told(unittest.TestCase):

    def setUp(self):
        self.book = book("ab", "X = Y", "Z = Z")
        self.lengths = {"X": 2, "Y": 2, "Z": 1}

    def test_told_letters(self):
        gluing = Gluing(self.book, self.lengths, told={("Y", 1): "b", ("Z", 0): "a"})
        self.assertEqual(gluing.lots, (((("X", 0), ("Y", 0)), ()), ((("X", 1), ("Y", 1)), ("b",)), ((("Z", 0),), ("a",))))
        self.assertEqual(gluing.fillings(), [{"X": "ab", "Y": "ab", "Z": "a"}, {"X": "bb", "Y": "bb", "Z": "a"}])
        gluing = Gluing(self.book, self.lengths, told={("Y", 1): "b", ("X", 1): "a"})
        self.assertEqual((gluing.clash, gluing.many), (True, 0))
        self.assertEqual(Gluing(self.book, self.lengths, told={}).lots, Gluing(self.book, self.lengths).lots)

    def assert_raises(self, error, field, worth, told, lengths=None):
        with self.subTest(told), self.assertRaises(error) as caught:
            Gluing(self.book, self.lengths if lengths is None else lengths, told=told)
        self.assertEqual(getattr(caught.exception, field), worth)

    def test_keys_that_are_no_places(self):
        for place in [("X", 2), ("X", -1), ("A", 0), ("X~", 0), ("Z", 1), ("", 0)]:
            self.assert_raises(BadLengths, "name", place[0], {place: "a"})
        self.assert_raises(BadLengths, "name", "X", {("Z", 5): "a", ("X", 2): "a", ("Y", 9): "a"})

    def test_values_that_are_no_letters(self):
        for letter in ["c", "", "ab", "X", "A", "#"]:
            self.assert_raises(BadSymbol, "symbol", letter, {("X", 0): "a", ("X", 1): letter, ("Y", 0): "d"})
        self.assert_raises(BadSymbol, "symbol", "d", {("Y", 0): "c", ("X", 1): "d"})

    def test_the_order_of_the_errors(self):
        self.assert_raises(BadLengths, "name", "Z", {("X", 0): "c", ("Z", 7): "a"})
        self.assert_raises(BadLengths, "name", "Y", {("A", 0): "c"}, {"X": 1, "Y": 31, "Z": 1})

    def test_told_letters_are_checked_also_if_the_lengths_are_uneven(self):
        uneven = {"X": 2, "Y": 1, "Z": 1}
        self.assertIs(Gluing(self.book, uneven, told={("X", 1): "a"}).uneven, True)
        self.assert_raises(BadLengths, "name", "Y", {("Y", 1): "a"}, uneven)
        self.assert_raises(BadSymbol, "symbol", "c", {("X", 1): "c"}, uneven)


class Counting(unittest.TestCase):

    def test_free_classes(self):
        gluing = Gluing(book("abc", "X Y = Y X", "Z = Z"), {"X": 2, "Y": 4, "Z": 3})
        self.assertEqual(len(gluing.free_lots), 5)
        self.assertEqual(gluing.many, 3 ** 5)
        gluing = Gluing(book("ab", "X a = X a", "Y b = Y~ b"), {"X": 1, "Y": 2})
        self.assertEqual(gluing.free_lots, (((("X", 0),), ()), ((("Y", 0), ("Y", 1)), ())))
        gluing = Gluing(book("ab", "X = Y b"), {"X": 2, "Y": 1})
        self.assertEqual((gluing.free_lots, gluing.many), ((((("X", 0), ("Y", 0)), ()),), 2))

    def test_256_fillings_and_more(self):
        asked = book("ab", "X = X")
        found = Gluing(asked, {"X": 8}).fillings()
        self.assertEqual(len(found), 256)
        self.assertEqual(found, [{"X": "".join(text)} for text in itertools.product("ab", repeat=8)])
        gluing = Gluing(asked, {"X": 9})
        self.assertEqual(gluing.many, 512)
        with self.assertRaises(TooLarge) as caught:
            gluing.fillings()
        self.assertEqual((caught.exception.what, caught.exception.limit), ("fillings", 256))
        self.assertEqual(len(Gluing(book("abcd", "X = X"), {"X": 4}).fillings()), 256)
        with self.assertRaises(TooLarge):
            Gluing(book("abc", "X = X", "Y = Y"), {"X": 4, "Y": 2}).fillings()

    def test_many_classes(self):
        asked = book("abcd", "A = A", "B = B", "C D E = C D E", "F = F")
        self.assertEqual(Gluing(asked, {name: 30 for name in asked.pieces}).many, 4 ** 180)

    def test_the_order_of_the_fillings(self):
        found = Gluing(book("ab", "Y X = Y X"), {"X": 1, "Y": 1}).fillings()
        self.assertEqual([list(one.items()) for one in found], [[("X", one), ("Y", other)] for one in "ab" for other in "ab"])

    def test_answers_are_new(self):
        gluing = Gluing(book("ab", "X = a"), {"X": 1})
        gluing.fillings()[0]["X"] = "b"
        gluing.fillings().clear()
        self.assertEqual(gluing.fillings(), [{"X": "a"}])

    def test_against_plain_search(self):
        for sample in all_samples():
            for lengths in lengths_up_to(sample, 2 if len(sample.pieces) > 2 else 3):
                gluing = Gluing(sample, lengths)
                found = with_lengths(sample, lengths)
                self.assertEqual(gluing.many, len(found))
                self.assertEqual(gluing.fillings(), found)
                if not gluing.uneven:
                    places = [place for inside, _ in gluing.lots for place in inside]
                    self.assertEqual(sorted(places), [(name, at) for name in sample.pieces for at in range(lengths[name])])
                    self.assertEqual(sorted(gluing.lots), list(gluing.lots))
                    self.assertEqual(gluing.free_lots, tuple(lot for lot in gluing.lots if lot[1] == ()))
                    for place in places:
                        self.assertIn(place, gluing.lots[gluing.lot_at(place)][0])
                    for place in places[:1]:
                        for letter in sample.letters:
                            told = Gluing(sample, lengths, told={place: letter})
                            fitting = [one for one in found if one[place[0]][place[1]] == letter]
                            self.assertEqual(told.fillings(), fitting)


class Sure(unittest.TestCase):

    def test_sure_letters(self):
        found = sure_letters(book("ab", "X b = Y X~"), {"Y": 1, "X": 2})
        self.assertEqual(list(found.items()), [(("X", 0), "b"), (("Y", 0), "b")])
        self.assertEqual(sure_letters(book("ab", "X = X"), {"X": 3}), {})
        found = sure_letters(book("ab", "Z = b a", "X = Z"), {"X": 2, "Z": 2})
        self.assertEqual(list(found.items()), [(("X", 0), "b"), (("X", 1), "a"), (("Z", 0), "b"), (("Z", 1), "a")])

    def test_an_alphabet_of_one_letter(self):
        found = sure_letters(book("c", "Y = Y", "X = X~"), {"X": 2, "Y": 1})
        self.assertEqual(list(found.items()), [(("X", 0), "c"), (("X", 1), "c"), (("Y", 0), "c")])

    def test_no_places(self):
        self.assertEqual(sure_letters(Book("ab"), {}), {})
        self.assertEqual(sure_letters(book("ab", "X ="), {"X": 0}), {})

    def test_lengths_without_fillings(self):
        for asked, lengths in [(book("ab", "X = Y"), {"X": 1, "Y": 2}), (book("ab", "X a = b X"), {"X": 1}), (book("ab", "a = b"), {}),
                               (book("c", "X = Y c"), {"X": 1, "Y": 1}), (book("ab", "a X = b X"), {"X": 1})]:
            with self.subTest(lengths), self.assertRaises(NoFilling):
                sure_letters(asked, lengths)

    def test_lengths_are_checked_first(self):
        with self.assertRaises(BadLengths):
            sure_letters(book("ab", "a X = b X"), {"X": 31})

    def test_answers_are_new(self):
        asked = book("ab", "X = a")
        sure_letters(asked, {"X": 1}).clear()
        self.assertEqual(sure_letters(asked, {"X": 1}), {("X", 0): "a"})

    def test_against_plain_search(self):
        for sample in all_samples():
            for lengths in lengths_up_to(sample, 2):
                found = with_lengths(sample, lengths)
                if not found:
                    with self.assertRaises(NoFilling):
                        sure_letters(sample, lengths)
                    continue
                expected = {}
                for name in sample.pieces:
                    for at in range(lengths[name]):
                        letters = {one[name][at] for one in found}
                        if len(letters) == 1:
                            expected[(name, at)] = letters.pop()
                self.assertEqual(list(sure_letters(sample, lengths).items()), list(expected.items()))


if __name__ == "__main__":
    unittest.main()
