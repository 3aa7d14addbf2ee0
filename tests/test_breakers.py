"""Points 85 to 87: twiceeach.breakers."""

import unittest

from tests.samples import all_samples, book, search
from tests.test_closing import many_effects, sixty, sixty_one
from tests.test_machines import even_machine
from tests.test_rules import balanced, plainly_keeps, takes
from tests.test_tables import machines_for
from twiceeach.books import Book
from twiceeach.breakers import alike_rules, breaker, first_telling, holds, least_breaker
from twiceeach.errors import BadLetters, BadMachine, BadNames, BadRule, TooLarge
from twiceeach.fillings import fills
from twiceeach.listing import fillings
from twiceeach.machines import Machine
from twiceeach.makers import beginner, counter, ender, holder, opposite
from twiceeach.rules import keeps, vector_keeps, vector_of
from twiceeach.tables import Table


def rules_for(sample, machines):
    """Some rules for the book and the machines."""
    rows = [(), (sample.letters[0],), *[(name,) for name in sample.pieces], *[(name + "~", "a", name) for name in sample.pieces],
            tuple(sample.pieces) * 2]
    leaves = [("takes", number, row) for number in range(len(machines)) for row in rows]
    return [*leaves, *[("not", leaf) for leaf in leaves[1::2]],
            *[(word, one, ("not", other)) for word in ("both", "either") for one, other in zip(leaves, leaves[2:])]]


class Rules(unittest.TestCase):

    def setUp(self):
        self.book = book("ab", "X a = a X")
        self.machines = [counter("ab", "a", 2, 0), counter("ab", "b", 4, 0), ender("ab", "a")]

    def test_rules_that_hold(self):
        for rule in [takes("X", 1), takes("X X"), takes("X a", 2), takes(""), ("not", takes("X b", 2)),
                     ("either", takes("X"), takes("X", 2)), ("either", takes("X"), ("not", takes("X")))]:
            self.assertIs(holds(self.book, self.machines, rule), True)
            self.assertIsNone(breaker(self.book, self.machines, rule))
            self.assertIsNone(least_breaker(self.book, self.machines, rule, most=12))

    def test_rules_that_break(self):
        for rule, least in [(takes("X"), "a"), (takes("X", 2), ""), (("not", takes("X", 2)), "a"), (takes("a"), ""),
                            (("either", ("not", takes("X")), ("not", takes("X", 2))), "aa"), (("both", takes("X", 1), takes("X")), "a")]:
            self.assertIs(holds(self.book, self.machines, rule), False)
            self.assertIs(keeps(self.book, self.machines, rule, breaker(self.book, self.machines, rule)), False)
            self.assertEqual(least_breaker(self.book, self.machines, rule, most=12), {"X": least})

    def test_the_breaker_is_that_of_the_first_vector(self):
        self.assertEqual(breaker(self.book, [counter("ab", "a", 2, 0)], takes("X")), {"X": "a"})
        for sample in all_samples()[::5]:
            for machines in machines_for(sample.letters)[:3]:
                table = Table(sample, machines)
                for rule in rules_for(sample, machines)[::2]:
                    broken = [vector for vector in table.vectors if not vector_keeps(sample, machines, rule, vector)]
                    found = breaker(sample, machines, rule)
                    self.assertIs(holds(sample, machines, rule), broken == [])
                    if broken:
                        self.assertEqual(found, table.filling_with(broken[0]))
                        self.assertEqual(vector_of(sample, machines, found), broken[0])
                        self.assertIs(fills(sample, found), True)
                    else:
                        self.assertIsNone(found)

    def test_a_book_that_no_filling_fills(self):
        for asked in [book("ab", "X a = b X"), book("ab", "a = b")]:
            for rule in [takes("a"), ("not", takes("a")), ("both", takes("a"), ("not", takes("a")))]:
                self.assertIs(holds(asked, self.machines, rule), True)
                self.assertIsNone(breaker(asked, self.machines, rule))
                self.assertIsNone(least_breaker(asked, self.machines, rule, most=12))
                self.assertIs(alike_rules(asked, self.machines, rule, ("not", rule)), True)

    def test_books_without_equations_or_pieces(self):
        for asked in [Book("ab"), book("ab", "a b = a b")]:
            self.assertIs(holds(asked, self.machines, takes("a a")), True)
            self.assertIs(holds(asked, self.machines, takes("a")), False)
            self.assertEqual(breaker(asked, self.machines, takes("a")), {})
            self.assertEqual(least_breaker(asked, self.machines, takes("a"), most=0), {})
            self.assertIsNone(least_breaker(asked, self.machines, takes(""), most=0))

    def test_they_agree_with_plain_search(self):
        for sample in all_samples()[::3]:
            found = search(sample, 4)
            for machines in machines_for(sample.letters)[:3]:
                for rule in rules_for(sample, machines)[::3]:
                    broken = [one for one in found if not plainly_keeps(machines, rule, one)]
                    least = least_breaker(sample, machines, rule, most=4)
                    self.assertEqual(least, broken[0] if broken else None)
                    if broken:
                        self.assertIs(holds(sample, machines, rule), False)
                    if holds(sample, machines, rule):
                        self.assertIsNone(least)

    def test_keys_are_in_ascending_order(self):
        asked = book("ab", "Z = B1 B")
        self.assertEqual(list(breaker(asked, self.machines, takes("Z", 2))), ["B", "B1", "Z"])
        self.assertEqual(list(least_breaker(asked, self.machines, takes("Z", 2), most=3)), ["B", "B1", "Z"])

    def test_changing_an_answer_has_no_effect(self):
        machines = list(self.machines)
        breaker(self.book, machines, takes("X"))["X"] = "b"
        least_breaker(self.book, machines, takes("X"), most=3)["X"] = "b"
        self.assertEqual(breaker(self.book, machines, takes("X")), {"X": "a"})
        self.assertEqual(least_breaker(self.book, machines, takes("X"), most=3), {"X": "a"})
        self.assertEqual(machines, self.machines)


class LeastBreakers(unittest.TestCase):

    def test_bounds(self):
        asked, machines = book("ab", "X a = a X"), [counter("ab", "a", 4, 3)]
        rule = ("not", takes("X"))
        self.assertIsNone(least_breaker(asked, machines, rule, most=0))
        self.assertIsNone(least_breaker(asked, machines, rule, most=2))
        self.assertEqual(least_breaker(asked, machines, rule, most=3), {"X": "aaa"})
        self.assertEqual(least_breaker(asked, machines, rule, most=12), {"X": "aaa"})
        for most in (13, 50):
            for machines, rule in [([counter("ab", "a", 4, 3)], takes("X")), ([], ()), ([many_effects()], "no rule")]:
                with self.assertRaises(TooLarge) as caught:
                    least_breaker(asked, machines, rule, most=most)
                self.assertEqual((caught.exception.what, caught.exception.limit), ("most", 12))

    def test_effects_have_no_limit(self):
        asked = book("ab", "X Y = Y X")
        for machines in [sixty_one(), [many_effects()], [many_effects(), opposite(many_effects()), even_machine()]]:
            for row in ["X", "Y a X~", "b"]:
                for rule in [takes(row), ("not", takes(row))]:
                    broken = [one for one in fillings(asked, most=6) if not keeps(asked, machines, rule, one)]
                    self.assertEqual(least_breaker(asked, machines, rule, most=6), broken[0] if broken else None)

    def test_totals_come_before_texts(self):
        asked = book("ab", "X = X", "Y = Y")
        rule = ("not", ("both", takes("X", 0), takes("Y", 1)))
        machines = [holder("ab", "b"), holder("ab", "ab")]
        self.assertEqual(least_breaker(asked, machines, rule, most=12), {"X": "b", "Y": "ab"})
        self.assertIsNone(least_breaker(asked, machines, rule, most=2))

    def test_free_texts_with_told_lengths(self):
        asked = book("ab", "X = Y Y")
        rule = ("not", takes("Y", 0))
        self.assertEqual(least_breaker(asked, [holder("ab", "bab")], rule, most=9), {"X": "babbab", "Y": "bab"})
        self.assertIsNone(least_breaker(asked, [holder("ab", "bab")], rule, most=8))


class AlikeRules(unittest.TestCase):

    def setUp(self):
        self.book = book("ab", "X a = a X")
        self.machines = [counter("ab", "a", 2, 0), ender("ab", "a"), beginner("ab", "b")]

    def test_small_rules(self):
        for first, second, alike in [(takes("X", 1), ("not", takes("X X", 2)), False), (takes("X"), takes("X~"), True),
                                     (takes("X"), takes("X X"), False), (takes("X", 2), ("not", takes("")), True),
                                     (takes("X"), ("not", takes("X a")), True), (takes("X a"), ("not", takes("X a")), False)]:
            self.assertIs(alike_rules(self.book, self.machines, first, second), alike)
            self.assertIs(alike_rules(self.book, self.machines, second, first), alike)

    def test_they_agree_with_the_rules_that_hold(self):
        for sample in all_samples()[::4]:
            machines = machines_for(sample.letters)[1]
            rules = rules_for(sample, machines)
            for first, second in zip(rules, rules[3:]):
                alike = alike_rules(sample, machines, first, second)
                both = ("either", ("both", first, second), ("both", ("not", first), ("not", second)))
                self.assertIs(alike, holds(sample, machines, both))
                if alike:
                    for one in fillings(sample, most=4):
                        self.assertIs(plainly_keeps(machines, first, one), plainly_keeps(machines, second, one))


class Telling(unittest.TestCase):

    def test_small_books(self):
        first, second = book("ab", "X a = a X"), book("ab", "X b = b X")
        machines = [beginner("ab", "a"), counter("ab", "a", 2, 0), Machine.taking_all("ab")]
        self.assertEqual(first_telling(first, second, machines), 0)
        self.assertEqual(first_telling(first, second, machines[::-1]), 1)
        self.assertIsNone(first_telling(first, second, machines[2:]))
        self.assertIsNone(first_telling(first, book("ab", "a X = X a"), machines))
        self.assertIsNone(first_telling(first, first, sixty()[:2]))

    def test_books_that_no_filling_fills(self):
        never, always = book("ab", "X a = b X"), book("ab", "X = X")
        self.assertEqual(first_telling(never, always, [Machine.taking_all("ab")]), 0)
        self.assertIsNone(first_telling(never, book("ab", "X = X a"), [even_machine()]))
        self.assertIsNone(first_telling(Book("ab"), book("ab", "a = a"), [even_machine()]))
        self.assertEqual(first_telling(Book("ab"), book("ab", "a = b"), [even_machine()]), 0)

    def test_a_machine_tells_by_itself(self):
        # The texts are the same but for one letter, of which only the ender knows.
        first, second = book("ab", "X = a b"), book("ab", "X = b a")
        self.assertEqual(first_telling(first, second, (counter("ab", "a", 2, 0), counter("ab", "b", 3, 1), ender("ab", "a"))), 2)

    def test_it_compares_the_vectors(self):
        samples = [sample for sample in all_samples() if sample.pieces == ("X", "Y") and sample.letters == "ab"][:9]
        machines = [counter("ab", "a", 2, 0), beginner("ab", "a"), holder("ab", "ab")]
        for first in samples:
            for second in samples:
                found = [number for number in range(3)
                         if Table(first, [machines[number]]).vectors != Table(second, [machines[number]]).vectors]
                self.assertEqual(first_telling(first, second, machines), found[0] if found else None)

    def test_alphabets_come_first(self):
        for second in [book("a", "X = a"), book("abc", "Y = a"), Book("b")]:
            with self.assertRaises(BadLetters) as caught:
                first_telling(book("ab", "X = a"), second, [])
            self.assertEqual(caught.exception.letters, second.letters)

    def test_pieces_come_next(self):
        for left, right, name in [("X = Y", "X = a", "Y"), ("X = a", "X = Y", "Y"), ("X = Z", "Y = Z", "X"), ("B = Z", "Y = A", "A"),
                                  ("a = a", "X1 = a", "X1")]:
            for machines in ([], [even_machine()], [Machine.taking_all("a")], [many_effects()]):
                with self.assertRaises(BadNames) as caught:
                    first_telling(book("ab", left), book("ab", right), machines)
                self.assertEqual(caught.exception.name, name)

    def test_machines_come_next(self):
        for machines in [[], [even_machine()] * 4, [even_machine(), Machine.taking_all("a")], [many_effects()] * 4,
                         [many_effects(), Machine.taking_all("abc")]]:
            with self.assertRaises(BadMachine):
                first_telling(book("ab", "X = a"), book("ab", "X = b"), machines)

    def test_machines_behind_the_first_one_that_tells_are_not_asked(self):
        first, second = book("ab", "X = a"), book("ab", "X = b")
        self.assertEqual(first_telling(first, second, [even_machine(), many_effects()]), 0)
        self.assertEqual(first_telling(first, second, [Machine.taking_all("ab"), even_machine(), many_effects()]), 1)
        for machines in [[many_effects(), even_machine()], [Machine.taking_all("ab"), many_effects(), even_machine()]]:
            with self.assertRaises(TooLarge) as caught:
                first_telling(first, second, machines)
            self.assertEqual((caught.exception.what, caught.exception.limit), ("effects", 60))

    def test_each_machine_is_limited_alone(self):
        self.assertIsNone(first_telling(book("ab", "X = a"), book("ab", "X = a"), sixty_one()))


class Errors(unittest.TestCase):

    def setUp(self):
        self.book = book("ab", "X a = b X")

    def calls(self, machines, rule):
        """Calls that check the machines and a rule."""
        return [lambda: holds(self.book, machines, rule), lambda: breaker(self.book, machines, rule),
                lambda: least_breaker(self.book, machines, rule, most=12), lambda: alike_rules(self.book, machines, rule, takes("X")),
                lambda: alike_rules(self.book, machines, rule, ()), lambda: alike_rules(self.book, machines, takes("X"), rule)]

    def test_machines_come_first(self):
        for machines in [[], [even_machine()] * 4, [Machine.taking_all("a")], [many_effects(), Machine.taking_all("abc")]]:
            for call in self.calls(machines, ("no rule",)):
                with self.assertRaises(BadMachine):
                    call()

    def test_rules_come_next(self):
        for machines in [[even_machine()], [many_effects()], sixty_one()]:
            for rule in [(), takes("Y"), takes("X", 3), ("not", "X"), balanced(5, takes("X")), takes("a " * 9)]:
                for call in self.calls(machines, rule):
                    with self.assertRaises(BadRule):
                        call()

    def test_effects_come_last(self):
        for machines in [[many_effects()], sixty_one()]:
            for call in self.calls(machines, takes("X"))[:2] + [lambda: alike_rules(self.book, machines, takes("X"), takes("a"))]:
                with self.assertRaises(TooLarge) as caught:
                    call()
                self.assertEqual((caught.exception.what, caught.exception.limit), ("effects", 60))

    def test_sixty_effects(self):
        asked = book("ab", "X a = a X")
        self.assertIs(holds(asked, sixty(), ("either", takes("X a"), ("not", takes("X a")))), True)
        self.assertEqual(least_breaker(asked, sixty(), ("not", takes("X", 2)), most=12), {"X": "aa"})


if __name__ == "__main__":
    unittest.main()
