"""Points 43 to 47: twiceeach.forms."""

import unittest

from tests.samples import all_samples, book
from twiceeach.books import Book
from twiceeach.errors import BadFilling, BadWalk
from twiceeach.fillings import fills
from twiceeach.forms import Form, form_of
from twiceeach.symbols import names_in
from twiceeach.walks import walks


class Forms(unittest.TestCase):

    def setUp(self):
        self.form = Form({"Y": ["Z~", "a", "X"], "X": ("X",), "A": (), "Z": ["Z"]}, {"Z": "mirror", "X": "any"})

    def test_fields(self):
        self.assertEqual(list(self.form.rows.items()), [("A", ()), ("X", ("X",)), ("Y", ("Z~", "a", "X")), ("Z", ("Z",))])
        self.assertEqual(list(self.form.free.items()), [("X", "any"), ("Z", "mirror")])

    def test_the_weight(self):
        self.assertEqual(self.form.weight, 5)
        self.assertEqual(Form({}, {}).weight, 0)
        self.assertEqual(Form({"X": ()}, {}).weight, 0)

    def test_filling(self):
        found = self.form.fill({"Z": "aba", "X": "ab"})
        self.assertEqual(list(found.items()), [("A", ""), ("X", "ab"), ("Y", "abaaab"), ("Z", "aba")])
        self.assertEqual(Form({"X": ("X", "b", "X~")}, {"X": "any"}).fill({"X": "ab"}), {"X": "abbba"})
        self.assertEqual(Form({}, {}).fill({}), {})

    def test_the_characters_are_not_checked(self):
        self.assertEqual(Form({"X": ("X",)}, {"X": "any"}).fill({"X": "z!"}), {"X": "z!"})

    def assert_bad(self, name, texts):
        with self.subTest(texts), self.assertRaises(BadFilling) as caught:
            self.form.fill(texts)
        self.assertEqual(caught.exception.name, name)

    def test_free_texts_that_do_not_fit(self):
        self.assert_bad("X", {})
        self.assert_bad("X", {"Z": "a"})
        self.assert_bad("Z", {"X": "a"})
        self.assert_bad("X", {"X": "", "Z": "a"})
        self.assert_bad("Z", {"X": "a", "Z": ""})
        self.assert_bad("Z", {"X": "ab", "Z": "ab"})
        self.assert_bad("Y", {"X": "a", "Y": "a", "Z": "a"})
        self.assert_bad("A", {"X": "a", "A": "", "Z": "a"})
        self.assert_bad("Zz", {"X": "a", "Z": "a", "Zz": "a"})

    def test_the_first_name_in_ascending_order(self):
        self.assert_bad("X", {"Z": "ab", "X": ""})
        self.assert_bad("A", {"Z": "ab", "A": "a"})
        self.assert_bad("Y", {"Z": "ab", "Y": "a", "X": "a"})
        self.assert_bad("X", {"Y": "a", "Z": "a"})

    def test_a_form_copies_what_it_is_given(self):
        rows, free = {"X": ["X"], "Y": ["a"]}, {"X": "any"}
        form = Form(rows, free)
        rows["X"].append("b")
        rows["Z"] = []
        free["X"] = "mirror"
        free["Z"] = "any"
        self.assertEqual((form.rows, form.free, form.weight), ({"X": ("X",), "Y": ("a",)}, {"X": "any"}, 2))
        self.assertEqual(form.fill({"X": "ab"}), {"X": "ab", "Y": "a"})

    def test_changing_an_answer_has_no_effect(self):
        texts = {"X": "ab", "Z": "a"}
        first = self.form.fill(texts)
        first["X"] = "b"
        self.assertEqual(self.form.fill(texts), {"A": "", "X": "ab", "Y": "aaab", "Z": "a"})
        self.assertEqual(texts, {"X": "ab", "Z": "a"})


class FormsOfWalks(unittest.TestCase):

    def test_forms(self):
        form = form_of(book("ab", "X Y = Y X"), ((), (("starts", "X", "Y"), ("is", "X", "Y"))))
        self.assertEqual((form.rows, form.free, form.weight), ({"X": ("Y", "Y"), "Y": ("Y",)}, {"Y": "any"}, 3))
        form = form_of(book("ab", "X a = a X", "Y = Y~"), ((), (("starts", "X", "a"), ("is", "X", "a"))))
        self.assertEqual((form.rows, form.free), ({"X": ("a", "a"), "Y": ("Y",)}, {"Y": "mirror"}))

    def test_the_lot_has_empty_rows(self):
        form = form_of(book("ab", "X a = a X", "Y = Y~"), (("X", "Y"), ()))
        self.assertEqual((form.rows, form.free, form.weight), ({"X": (), "Y": ()}, {}, 0))
        form = form_of(book("ab", "X a = a X", "Y = Y~"), (("X",), ()))
        self.assertEqual((form.rows, form.free, form.weight), ({"X": (), "Y": ("Y",)}, {"Y": "mirror"}, 1))
        form = form_of(Book("ab"), ((), ()))
        self.assertEqual((form.rows, form.free), ({}, {}))

    def test_turned_pieces(self):
        form = form_of(book("ab", "X~ = a b Y"), ((), (("starts", "X~", "a"), ("starts", "X~", "b"), ("is", "X~", "Y"))))
        self.assertEqual((form.rows, form.free), ({"X": ("Y~", "b", "a"), "Y": ("Y",)}, {"Y": "any"}))

    def test_keys_are_in_ascending_order(self):
        form = form_of(book("ab", "Z B = Z B~", "= A"), (("A",), ()))
        self.assertEqual(list(form.rows), ["A", "B", "Z"])
        self.assertEqual(list(form.free.items()), [("B", "mirror"), ("Z", "any")])

    def test_the_argument_and_the_answers_are_free_of_each_other(self):
        asked = book("ab", "X = X")
        form_of(asked, ((), ())).rows["X"] = ()
        form_of(asked, ((), ())).free["X"] = "mirror"
        self.assertEqual((form_of(asked, ((), ())).rows, form_of(asked, ((), ())).free), ({"X": ("X",)}, {"X": "any"}))

    def assert_bad(self, at, asked, walk):
        with self.subTest(walk), self.assertRaises(BadWalk) as caught:
            form_of(asked, walk)
        self.assertEqual(caught.exception.at, at)

    def test_lots_that_are_none(self):
        asked = book("ab", "X a = a X", "Y b = b Y")
        for lot in [("Y", "X"), ("X", "X"), ("Z",), ("X", "Z"), ("X~",), ("a",), ("",)]:
            self.assert_bad(0, asked, (lot, ()))
            self.assert_bad(0, asked, (lot, (("is", "X", "a"), ("is", "Y", "b"))))

    def test_a_dead_start(self):
        self.assert_bad(0, book("ab", "X a = b X"), (("X",), ()))
        self.assert_bad(0, book("ab", "a = b"), ((), (("is", "X", "a"),)))

    def test_moves_that_do_not_fit(self):
        asked = book("ab", "X Y = Y X")
        good = (("starts", "X", "Y"), ("starts", "Y", "X"), ("is", "X", "Y"))
        self.assertEqual(form_of(asked, ((), good)).rows, {"X": ("Y", "Y", "Y"), "Y": ("Y", "Y")})
        self.assert_bad(1, asked, ((), (good[0], ("is", "X", "a"))))
        self.assert_bad(0, asked, ((), (("is", "Y", "X"), *good)))
        self.assert_bad(2, asked, ((), (good[0], good[1], ("starts", "Y~", "X"))))
        self.assert_bad(1, asked, ((), (good[0], ("", "", ""))))
        self.assert_bad(3, asked, ((), (*good, good[0])))
        self.assert_bad(0, asked, (("X", "Y"), good))

    def test_dead_results(self):
        asked = book("ab", "X a = a X b Y")
        self.assert_bad(0, book("ab", "X a = b X"), ((), (("is", "X", "b"),)))
        self.assert_bad(1, asked, ((), (("starts", "X", "a"), ("is", "X", "a"))))

    def test_moves_that_do_not_lead_to_the_end(self):
        asked = book("ab", "X Y = Y X")
        self.assert_bad(0, asked, ((), ()))
        self.assert_bad(1, asked, ((), (("starts", "X", "Y"),)))
        self.assert_bad(2, asked, ((), (("starts", "X", "Y"), ("starts", "Y", "X"))))

    def test_the_forms_of_all_walks(self):
        for sample in all_samples():
            for walk in walks(sample, most=4):
                lot, taken = walk
                form = form_of(sample, walk)
                self.assertEqual(tuple(form.rows), sample.pieces)
                self.assertEqual(tuple(name for name in form.rows if form.rows[name] == ()), lot)
                self.assertEqual(set(names_in(*form.rows.values())), set(form.free))
                self.assertEqual(form.weight, sum(len(row) for row in form.rows.values()))
                for name in form.free:
                    self.assertIn(form.free[name], ("any", "mirror"))
                    self.assertIn(name, [symbol.rstrip("~") for symbol in form.rows[name]])
                for letters in ["a", "ab", "bab", "abba"]:
                    texts = {name: letters if kind == "any" or letters == letters[::-1] else "b"
                             for name, kind in form.free.items()}
                    if set("".join(texts.values())) <= set(sample.letters):
                        self.assertTrue(fills(sample, form.fill(texts)))


if __name__ == "__main__":
    unittest.main()
