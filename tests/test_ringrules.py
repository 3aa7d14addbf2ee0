"""Point 139: twiceeach.ringrules."""

import unittest

from tests.samples import text_of
from tests.test_breakers import rules_for
from tests.test_closing import many_effects, sixty, sixty_one
from tests.test_cuts import row, two_rows
from tests.test_machines import even_machine
from tests.test_rules import plainly_keeps, takes
from tests.test_tables import machines_for
from twiceeach.books import Book
from twiceeach.cuts import cut_book, cuts
from twiceeach.cutting import mended_filling
from twiceeach.effects import combine
from twiceeach.errors import BadLetters, BadMachine, BadRule, BadSymbol, StandsThrice, TooLarge
from twiceeach.machines import Machine
from twiceeach.makers import beginner, counter, ender
from twiceeach.ringrules import ring_breaker, ring_holds, ring_vectors
from twiceeach.rings import ring_fillings
from twiceeach.rules import vector_keeps, vector_of
from twiceeach.tables import Table
from twiceeach.turnings import turnings


def listed_vectors(letters, left, right, machines, most):
    """The vectors of the listed ring fillings, in ascending order without duplicates."""
    whole = Book(letters, [(left, right)])
    return tuple(sorted({vector_of(whole, machines, one) for one in ring_fillings(letters, left, right, most=most)}))


def plain_breaker(letters, left, right, machines, rule):
    """The breaker, by the words of the interface."""
    whole = Book(letters, [(left, right)])
    for cut in cuts(left, right):
        made, parts = cut_book(letters, left, right, cut)
        table = Table(made, machines)
        for vector in table.vectors:
            effects = dict(zip(made.pieces, vector))
            if parts is not None:
                effects[parts[0]] = combine(effects[parts[1]], effects[parts[2]])
            if not vector_keeps(whole, machines, rule, tuple(effects[name] for name in whole.pieces)):
                filling = table.filling_with(vector)
                return filling if parts is None else mended_filling(filling, *parts)
    return None


def small_rows(many, seed):
    """Pairs of rows that are small enough for tables of all their cuts."""
    return [rows for rows in two_rows(many, seed) if len(rows[1] + rows[2]) < 7]


class RingVectors(unittest.TestCase):

    def test_small_rows(self):
        machines = [even_machine()]
        even, odd = (((0, 1), (0, 1)),), (((1, 0), (1, 0)),)
        self.assertEqual(ring_vectors("ab", row("X"), row("a b"), machines), ((odd,),))
        self.assertEqual(ring_vectors("ab", row("X"), row("Y"), machines), ((even, even), (odd, odd)))
        self.assertEqual(ring_vectors("ab", row("X a"), row("b X"), machines), ())
        self.assertEqual(ring_vectors("ab", row("X X"), row("Y"), machines), ((even, even), (odd, even)))

    def test_rows_without_pieces_and_empty_rows(self):
        machines = [even_machine()]
        for left, right, found in [("", "", ((),)), ("a b", "b a", ((),)), ("a", "b", ()), ("a", "", ())]:
            self.assertEqual(ring_vectors("ab", row(left), row(right), machines), found)
        self.assertEqual(ring_vectors("ab", row("X"), (), machines), (((((0, 1), (0, 1)),),),))

    def test_the_vectors_of_the_listed_ring_fillings(self):
        machines = [counter("ab", "a", 2, 0), ender("ab", "b")]
        for left, right in [("X", "a b b"), ("X a", "Y"), ("X Y", "a b a"), ("X", "X~"), ("b X", "X~ b")]:
            found = ring_vectors("ab", row(left), row(right), machines)
            self.assertEqual(found, listed_vectors("ab", row(left), row(right), machines, 11))

    def test_no_listed_ring_filling_has_another_vector(self):
        for letters, left, right in small_rows(60, seed=53):
            for machines in machines_for(letters)[:2]:
                found = ring_vectors(letters, left, right, machines)
                self.assertEqual(list(found), sorted(set(found)))
                self.assertLessEqual(set(listed_vectors(letters, left, right, machines, 4)), set(found))

    def test_cuts_within(self):
        machines = [beginner("ab", "a"), ender("ab", "a")]
        found = ring_vectors("ab", row("b a a"), row("X"), machines)
        self.assertEqual(found, listed_vectors("ab", row("b a a"), row("X"), machines, 3))
        self.assertEqual(len(found), 3)


class RingRules(unittest.TestCase):

    def test_small_rules(self):
        machines = [counter("ab", "a", 2, 0), ender("ab", "a")]
        left, right = row("X"), row("Y")
        same = ("either", ("both", takes("X"), takes("Y")), ("not", ("either", takes("X"), takes("Y"))))
        self.assertIs(ring_holds("ab", left, right, machines, same), True)
        self.assertIsNone(ring_breaker("ab", left, right, machines, same))
        self.assertIs(ring_holds("ab", left, right, machines, ("either", ("not", takes("X", 1)), takes("Y", 1))), False)
        found = ring_breaker("ab", left, right, machines, ("either", ("not", takes("X", 1)), takes("Y", 1)))
        self.assertEqual((found["X"][-1], found["Y"][-1], list(found)), ("a", "b", ["X", "Y"]))

    def test_rows_that_no_filling_makes_alike(self):
        for rule in [takes("X"), ("not", takes("X")), takes("a"), ("not", takes("a"))]:
            self.assertIs(ring_holds("ab", row("X a"), row("b X"), [even_machine()], rule), True)
            self.assertIsNone(ring_breaker("ab", row("X a"), row("b X"), [even_machine()], rule))

    def test_breakers(self):
        met = {}
        for letters, left, right in small_rows(40, seed=59):
            whole = Book(letters, [(left, right)])
            for machines in machines_for(letters)[:3]:
                vectors = ring_vectors(letters, left, right, machines)
                for rule in rules_for(whole, machines)[::4]:
                    kept = all(vector_keeps(whole, machines, rule, vector) for vector in vectors)
                    found = ring_breaker(letters, left, right, machines, rule)
                    self.assertIs(ring_holds(letters, left, right, machines, rule), kept)
                    self.assertEqual(found, plain_breaker(letters, left, right, machines, rule))
                    self.assertIs(found is None, kept)
                    met[kept] = True
                    if found is not None:
                        self.assertEqual(list(found), list(whole.pieces))
                        self.assertNotEqual(turnings(text_of(left, found), text_of(right, found)), ())
                        self.assertIs(plainly_keeps(machines, rule, found), False)
        self.assertEqual(set(met), {True, False})

    def test_a_breaker_of_a_cut_within(self):
        rule = ("not", ("both", takes("X", 0), takes("X", 1)))
        machines = [beginner("ab", "a"), ender("ab", "a")]
        found = ring_breaker("ab", row("b a a"), row("X"), machines, rule)
        self.assertEqual(found, {"X": "aba"})


class Errors(unittest.TestCase):

    def calls(self, letters, left, right, machines, rule=("takes", 0, ())):
        return [lambda: ring_vectors(letters, left, right, machines), lambda: ring_holds(letters, left, right, machines, rule),
                lambda: ring_breaker(letters, left, right, machines, rule)]

    def test_the_two_rows_and_their_cuts_come_first(self):
        for error, letters, left, right in [(BadLetters, "ba", row("X"), row("c")), (BadSymbol, "ab", row("X"), row("c")),
                                            (StandsThrice, "ab", row("X X"), row("X")), (TooLarge, "ab", row("A B C"), row("D E F")),
                                            (TooLarge, "ab", row("a") * 20, row("b b b X"))]:
            for call in self.calls(letters, left, right, [], None):
                with self.assertRaises(error):
                    call()

    def test_then_the_machines_and_the_rule(self):
        good, other = even_machine(), Machine.taking_all("abc")
        for machines in [[], [good] * 4, [other], [good, other], [many_effects(), other]]:
            for call in self.calls("ab", row("X"), row("Y"), machines, None):
                with self.assertRaises(BadMachine):
                    call()
        for rule in [("takes", 1, ("X",)), ("takes", 0, ("N0",)), ("takes", 0, ("Z",)), ("not",), (), "takes"]:
            for machines in ([good], [many_effects()]):
                for call in self.calls("ab", row("X"), row("Y"), machines[:1], rule)[1:]:
                    with self.assertRaises(BadRule):
                        call()

    def test_then_the_number_of_effects(self):
        for left, right in [(row("X"), row("Y")), (row("a"), row("b")), ((), ())]:
            for machines in (sixty_one(), [many_effects()]):
                for call in self.calls("ab", left, right, machines):
                    with self.assertRaises(TooLarge) as caught:
                        call()
                    self.assertEqual((caught.exception.what, caught.exception.limit), ("effects", 60))
        self.assertEqual(ring_vectors("ab", row("a"), row("b"), sixty()), ())


if __name__ == "__main__":
    unittest.main()
