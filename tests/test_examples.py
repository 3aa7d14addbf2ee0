"""The examples of the interface, each with the answer that stands there."""

import unittest

from twiceeach.books import Book
from twiceeach.breakers import breaker
from twiceeach.commutators import split_off
from twiceeach.cuts import cut_book
from twiceeach.desk import Desk
from twiceeach.effects import effect
from twiceeach.errors import BadWalk
from twiceeach.exchanges import Exchange
from twiceeach.fewest import fewest
from twiceeach.forms import form_of
from twiceeach.gluing import Gluing
from twiceeach.listing import fillings
from twiceeach.machines import Machine
from twiceeach.makers import counter, ender
from twiceeach.mirrors import straightened_book
from twiceeach.names import canonical
from twiceeach.pairs import after, settle
from twiceeach.papers import closed_paper
from twiceeach.pathway import lengths_walk
from twiceeach.placemaps import blocks_of
from twiceeach.polygons import corners
from twiceeach.rings import ring_fillings
from twiceeach.rulepapers import rule_paper
from twiceeach.symbols import replaced, turned
from twiceeach.texts import parse_book
from twiceeach.turnings import turnings
from twiceeach.useful import walk_count
from twiceeach.walks import walks
from twiceeach.web import Web


class Examples(unittest.TestCase):

    def test_symbols(self):
        self.assertEqual(turned(("a", "X", "Y~")), ('Y', 'X~', 'a'))
        self.assertEqual(replaced(("X", "a", "X~"), "X", ("b", "X")), ('b', 'X', 'a', 'X~', 'b'))

    def test_books(self):
        book = Book("ab", [(["X", "a"], ["a", "X"]), ([], ["Y", "Y~"])])
        self.assertEqual(book.joined(), (('X', 'a', '#'), ('a', 'X', '#', 'Y', 'Y~')))

    def test_pairs(self):
        self.assertEqual(settle((("a", "X", "Y"), ("a", "X~", "b"))), ((('X', 'mirror'),), (('Y',), ('b',))))
        self.assertEqual(after((("X", "Y"), ("Y", "X")), ("starts", "X", "Y")), ((), (('X', 'Y'), ('Y', 'X'))))

    def test_texts(self):
        self.assertEqual(parse_book("letters ab\nX a = a X\n- = Y Y~").equations, ((('X', 'a'), ('a', 'X')), ((), ('Y', 'Y~'))))

    def test_names(self):
        made, table = canonical(Book("ab", [(["X~", "Y"], ["a", "X"])]))
        self.assertEqual((made.equations, table), (((('A', 'B'), ('a', 'A~')),), {'X': 'A~', 'Y': 'B'}))

    def test_web(self):
        self.assertEqual(Web(Book("ab", [(["X", "a"], ["a", "X"])])).pairs, ((('X', 'a'), ('a', 'X')), ((), ())))

    def test_useful(self):
        self.assertEqual(walk_count(Book("ab", [(["X", "Y"], ["a", "b", "a"])])), 4)

    def test_papers(self):
        self.assertEqual(closed_paper(Book("ab", [(["X", "a"], ["b", "X"])])), ((('X', 'a'), ('b', 'X')),))

    def test_forms(self):
        form = form_of(Book("ab", [(["X", "Y"], ["Y", "X"])]), ((), (("starts", "X", "Y"), ("is", "X", "Y"))))
        self.assertEqual((form.rows, form.free, form.weight, form.fill({"Y": "ab"})),
                         ({'X': ('Y', 'Y'), 'Y': ('Y',)}, {'Y': 'any'}, 3, {'X': 'abab', 'Y': 'ab'}))
        with self.assertRaises(BadWalk) as caught:
            form_of(Book("ab", [(["X", "Y"], ["Y", "X"])]), ((), (("starts", "X", "Y"), ("is", "X", "a"))))
        self.assertEqual(caught.exception.at, 1)

    def test_walks(self):
        self.assertEqual(list(walks(Book("ab", [(["X", "a"], ["a", "X"])]), most=2)),
                         [((), (('is', 'X', 'a'),)), ((), (('starts', 'X', 'a'), ('is', 'X', 'a'))), (('X',), ())])

    def test_listing(self):
        self.assertEqual(fillings(Book("ab", [(["X", "a"], ["a", "X"])]), most=2), [{'X': ''}, {'X': 'a'}, {'X': 'aa'}])

    def test_gluing(self):
        gluing = Gluing(Book("ab", [(["X", "b"], ["Y", "X~"])]), {"X": 2, "Y": 1}, told={("X", 1): "a"})
        self.assertEqual((gluing.lots, gluing.many, gluing.fillings()),
                         (((((('X', 0), ('Y', 0)), ('b',)), ((('X', 1),), ('a',)))), 1, [{'X': 'ba', 'Y': 'b'}]))

    def test_pathway(self):
        self.assertEqual(lengths_walk(Book("ab", [(["X", "Y"], ["Y", "X"])]), {"X": 2, "Y": 4}),
                         (((), (('starts', 'Y', 'X'), ('is', 'X', 'Y'))), {'Y': ('any', 2)}))

    def test_effects(self):
        self.assertEqual(effect([ender("ab", "a")], "ab"), (((0, 0), (1, 1)),))

    def test_breakers(self):
        book = Book("ab", [(["X", "a"], ["a", "X"])])
        self.assertEqual(breaker(book, [counter("ab", "a", 2, 0)], ("takes", 0, ("X",))), {'X': 'a'})

    def test_rule_papers(self):
        self.assertEqual(rule_paper(Book("a", [(["X"], ["a"])]), [Machine.taking_all("a")], ("takes", 0, ("X",))),
                         ((((), ()), ((),)), ((('X',), ('a',)), (((((0,), (0,)),),),))))

    def test_mirrors(self):
        made, names = straightened_book(Book("ab", [(["X~", "a"], ["Y", "X"])]))
        self.assertEqual((made.equations, names), (((('X', 'a'), ('Y', 'X~')),), ('X',)))

    def test_turnings(self):
        self.assertEqual(turnings("abab", "baba"), (1, 3))

    def test_cuts(self):
        made, parts = cut_book("ab", ("X", "a"), ("b", "X~"), ("within", 1))
        self.assertEqual((made.equations, parts), (((('N0', 'N1', 'a'), ('N0~', 'b', 'N1~')),), ('X', 'N0', 'N1')))

    def test_rings(self):
        self.assertEqual(ring_fillings("ab", ("X", "b"), ("b", "Y"), most=2),
                         [{'X': '', 'Y': ''}, {'X': 'a', 'Y': 'a'}, {'X': 'b', 'Y': 'b'}])

    def test_exchanges(self):
        self.assertEqual((Exchange((2, -1)).rearranged(["ab", "c"]), (~Exchange((2, -1))).blocks), (['c', 'ba'], (-2, 1)))

    def test_placemaps(self):
        made, lengths = blocks_of((3, 4, 2, 1, 0), turned=True)
        self.assertEqual((made.blocks, lengths), ((2, -1), (3, 2)))

    def test_fewest(self):
        made, lengths = fewest("abab", "bbaa")
        self.assertEqual((made.blocks, lengths), ((3, 2, 1), (1, 2, 1)))

    def test_polygons(self):
        self.assertEqual(corners(4, ((0, 2), (1, 3))), ((0, 1, 2, 3),))

    def test_commutators(self):
        self.assertEqual(split_off((1, 2, 3, -1, -2, -3), ((0, 3), (1, 4), (2, 5)))[2:], ((3, -3), ((0, 1),)))

    def test_desk(self):
        desk = Desk("ab")
        desk.edit(("add", ["X", "a"], ["a", "X"]), ("tell", "X", 3))
        self.assertEqual((desk.number(), desk.state().walk, desk.journal), (1, (('X',), ()), ('add X a = a X', 'tell X 3')))


if __name__ == "__main__":
    unittest.main()
