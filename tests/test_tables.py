"""Points 82 to 84: twiceeach.tables."""

import itertools
import unittest

from tests.samples import all_samples, book, search_pair, texts_up_to, thrown_books
from tests.test_closing import many_effects, sixty, sixty_one
from tests.test_effects import plain_effect
from tests.test_machines import even_machine
from twiceeach.books import Book
from twiceeach.closing import Closing
from twiceeach.effects import combine, effect, row_effect, unit
from twiceeach.errors import BadMachine, NoFilling, TooLarge
from twiceeach.fillings import fills
from twiceeach.forms import form_of
from twiceeach.listing import fillings
from twiceeach.machines import Machine
from twiceeach.makers import beginner, counter, ender, holder
from twiceeach.pairs import END, substitution
from twiceeach.rules import vector_of
from twiceeach.symbols import names_in
from twiceeach.tables import Table
from twiceeach.walks import walk_of
from twiceeach.web import Web


def machines_for(letters):
    """Machines of calls over the alphabet, with few effects."""
    return [[counter(letters, letters[0], 2, 0)], [beginner(letters, letters[0]), ender(letters, letters[-1])],
            [holder(letters, letters[0] * 2), counter(letters, letters[-1], 2, 1)], [Machine.taking_all(letters)]]


def choices_of(closing, freed):
    """All choices of effects for freed pieces, dicts."""
    kinds = {"any": closing.effects, "mirror": closing.mirrors}
    names = [name for name, _ in freed]
    return [dict(zip(names, chosen)) for chosen in itertools.product(*[kinds[kind] for _, kind in freed])]


def plain_pair_vectors(web, machines):
    """The vectors of all pairs of a web, by the words of point 83, until nothing new is found."""
    closing = Closing(machines)
    found = {pair: {()} if pair == END else set() for pair in web.pairs}
    grown = True
    while grown:
        grown = False
        for pair in web.pairs:
            for move, freed, behind in web.steps(pair):
                name, content = substitution(move)
                for vector, chosen in itertools.product(list(found[behind]), choices_of(closing, freed)):
                    effects = {**dict(zip(names_in(*behind), vector)), **chosen}
                    effects[name] = row_effect(machines, content, effects)
                    made = tuple(effects[one] for one in names_in(*pair))
                    grown = grown or made not in found[pair]
                    found[pair].add(made)
    return found


def plain_book_vectors(web, machines, of_pairs):
    """The vectors of the book of a web, by the words of point 83."""
    closing = Closing(machines)
    found = set()
    for lot, freed, pair in web.starts:
        for vector, chosen in itertools.product(of_pairs[pair], choices_of(closing, freed)):
            effects = {**dict.fromkeys(lot, unit(machines)), **dict(zip(names_in(*pair), vector)), **chosen}
            found.add(tuple(effects[name] for name in web.book.pieces))
    return found


class SmallTables(unittest.TestCase):

    def setUp(self):
        self.book = book("ab", "X a = a X")
        self.machines = [even_machine()]
        self.even, self.odd = (((0, 1), (0, 1)),), (((1, 0), (1, 0)),)

    def test_fields_and_vectors(self):
        table = Table(self.book, self.machines)
        self.assertEqual(table.book, self.book)
        self.assertIsInstance(table.web, Web)
        self.assertEqual((table.web.pairs, table.web.lots), (Web(self.book).pairs, ((), ("X",))))
        self.assertEqual(table.vectors, ((self.even,), (self.odd,)))
        self.assertEqual(table.vectors_at((("X", "a"), ("a", "X"))), ((self.even,), (self.odd,)))
        self.assertEqual(table.vectors_at(END), ((),))

    def test_fillings(self):
        table = Table(self.book, self.machines)
        self.assertEqual(table.filling_with((self.odd,)), {"X": "a"})
        self.assertEqual(table.filling_with((self.even,)), {"X": ""})

    def test_pieces_that_are_freed(self):
        table = Table(book("ab", "X = X", "Y~ = Y"), [beginner("ab", "b"), ender("ab", "b")])
        machines = [beginner("ab", "b"), ender("ab", "b")]
        for one, other in itertools.product(["", "a", "b", "ab", "ba"], ["", "a", "b"]):
            found = table.filling_with((effect(machines, one), effect(machines, other)))
            self.assertEqual(found, {"X": one, "Y": other})
        self.assertEqual(len(table.vectors), 15)
        with self.assertRaises(NoFilling):
            table.filling_with((unit(machines), effect(machines, "ab")))

    def test_keys_are_in_ascending_order(self):
        table = Table(book("ab", "Z = B1 B"), self.machines)
        for vector in table.vectors:
            self.assertEqual(list(table.filling_with(vector)), ["B", "B1", "Z"])

    def test_a_book_that_no_filling_fills(self):
        table = Table(book("ab", "X a = b X"), self.machines)
        self.assertEqual(table.vectors, ())
        self.assertEqual(table.vectors_at((("X", "a"), ("b", "X"))), ())
        self.assertEqual(table.vectors_at(END), ())
        with self.assertRaises(NoFilling):
            table.filling_with((self.even,))

    def test_pairs_that_are_not_useful(self):
        table = Table(book("ab", "X Y = a b Y"), self.machines)
        self.assertIn((("Y",), ("b", "Y")), table.web)
        self.assertEqual(table.vectors_at((("Y",), ("b", "Y"))), ())
        self.assertEqual(table.vectors, ((self.odd, self.even), (self.odd, self.odd)))

    def test_books_without_equations_or_pieces(self):
        for asked, vectors in [(Book("ab"), ((),)), (book("ab", "a b = a b"), ((),)), (book("ab", "a = b"), ())]:
            table = Table(asked, self.machines)
            self.assertEqual(table.vectors, vectors)
            if vectors:
                self.assertEqual(table.filling_with(()), {})
            else:
                with self.assertRaises(NoFilling):
                    table.filling_with(())

    def test_pairs_that_are_not_in_the_web(self):
        table = Table(self.book, self.machines)
        for pair in [(("X",), ("X",)), (("a", "X"), ("X", "a")), (("X", "b"), ("b", "X")), (("?",), ()), ((), ("a",))]:
            self.assertEqual(table.vectors_at(pair), ())

    def test_what_is_no_vector_of_the_book(self):
        table = Table(book("ab", "X = a b", "Y = X"), self.machines)
        self.assertEqual(table.vectors, ((self.odd, self.odd),))
        for vector in [(), (self.odd,), (self.even, self.odd), (self.odd, self.odd, self.odd), self.odd, (0, 1), ((), ()),
                       (self.odd, (((1, 1), (1, 1)),)), (((((self.odd,),),),), self.odd), (1,)]:
            with self.subTest(vector), self.assertRaises(NoFilling):
                table.filling_with(vector)

    def test_changing_answers_and_arguments_has_no_effect(self):
        machines = [even_machine()]
        table = Table(self.book, machines)
        machines.append(beginner("ab", "a"))
        machines[0] = machines[1]
        table.filling_with((self.odd,))["X"] = "b"
        self.assertEqual(table.filling_with((self.odd,)), {"X": "a"})
        self.assertEqual(table.vectors_at((("X", "a"), ("a", "X"))), table.vectors)


class Errors(unittest.TestCase):

    def test_machines(self):
        asked = book("ab", "X a = b X")
        for machines in [[], [even_machine()] * 4, [Machine.taking_all("a")], [even_machine(), Machine.taking_all("abc")],
                         [many_effects()] * 4]:
            with self.assertRaises(BadMachine):
                Table(asked, machines)
        with self.assertRaises(BadMachine):
            Table(Book("a"), [many_effects()])

    def test_too_many_effects(self):
        for asked in [book("ab", "X a = a X"), book("ab", "X a = b X"), Book("ab"), book("ab", "a = b")]:
            for machines in [sixty_one(), [many_effects()], [even_machine(), many_effects()]]:
                with self.assertRaises(TooLarge) as caught:
                    Table(asked, machines)
                self.assertEqual((caught.exception.what, caught.exception.limit), ("effects", 60))

    def test_sixty_effects(self):
        table = Table(book("ab", "X Y = Y X"), sixty())
        for vector in table.vectors[::40]:
            self.assertEqual(vector_of(table.book, sixty(), table.filling_with(vector)), vector)


class Agreement(unittest.TestCase):

    def test_the_vectors_are_those_that_the_steps_and_starts_make(self):
        for sample in all_samples():
            for machines in machines_for(sample.letters)[:2]:
                table = Table(sample, machines)
                of_pairs = plain_pair_vectors(table.web, machines)
                for pair in table.web.pairs:
                    self.assertEqual(table.vectors_at(pair), tuple(sorted(of_pairs[pair])))
                self.assertEqual(table.vectors, tuple(sorted(plain_book_vectors(table.web, machines, of_pairs))))

    def test_the_vectors_of_the_listed_fillings(self):
        for sample in all_samples():
            found = fillings(sample, most=5)
            for machines in machines_for(sample.letters):
                table = Table(sample, machines)
                shown = {vector_of(sample, machines, one) for one in found}
                self.assertLessEqual(shown, set(table.vectors))
                for vector in table.vectors:
                    filling = table.filling_with(vector)
                    self.assertIs(fills(sample, filling), True)
                    self.assertEqual(vector_of(sample, machines, filling), vector)

    def test_the_vectors_of_pairs_are_those_of_their_fillings(self):
        for sample in thrown_books(60, seed=13):
            machines = [counter(sample.letters, "a", 2, 0)]
            table = Table(sample, machines)
            for pair in table.web.pairs[:4]:
                names = names_in(*pair)
                if len(names) < 3:
                    shown = {tuple(plain_effect(machines, one[name]) for name in names)
                             for one in search_pair(pair, sample.letters, 3)}
                    self.assertLessEqual(shown, set(table.vectors_at(pair)))

    def test_the_walk_has_the_fewest_moves(self):
        for sample in all_samples():
            machines = machines_for(sample.letters)[1]
            table = Table(sample, machines)
            for one in fillings(sample, most=5):
                (_, taken), _ = walk_of(sample, one)
                (_, fewest), _ = walk_of(sample, table.filling_with(vector_of(sample, machines, one)))
                self.assertLessEqual(len(fewest), len(taken))

    def test_the_free_texts_are_the_least_ones(self):
        for sample in all_samples():
            for machines in machines_for(sample.letters)[1:3]:
                table, closing = Table(sample, machines), Closing(machines)
                for vector in table.vectors:
                    walk, texts = walk_of(sample, table.filling_with(vector))
                    form = form_of(sample, walk)
                    for name, text in texts.items():
                        worth = effect(machines, text)
                        if form.free[name] == "any":
                            self.assertEqual(text, closing.least(worth))
                        else:
                            self.assertEqual(text, closing.least_mirror(worth))

    def test_any_two_texts_make_a_vector_of_a_free_book(self):
        machines = [holder("ab", "ab")]
        table = Table(book("ab", "X Y = Z"), machines)
        for one, other in itertools.product(texts_up_to("ab", 3), repeat=2):
            effects = effect(machines, one), effect(machines, other)
            self.assertIn((*effects, combine(*effects)), table.vectors)


if __name__ == "__main__":
    unittest.main()
