"""Points 79 to 81: twiceeach.rules."""

import itertools
import unittest

from tests.samples import book, text_of, texts_up_to
from tests.test_effects import plain_effect
from tests.test_machines import even_machine
from twiceeach.books import Book
from twiceeach.errors import BadFilling, BadMachine, BadRule
from twiceeach.machines import Machine
from twiceeach.makers import beginner, ender, holder
from twiceeach.rules import check_rule, keeps, vector_keeps, vector_of


def takes(row, number=0):
    """The rule that the machine takes the row, which is written as "X a"."""
    return ("takes", number, tuple(row.split()))


def balanced(depth, leaf):
    """A rule with 2 ** depth leaves, all of which are one tuple."""
    rule = leaf
    for _ in range(depth):
        rule = ("both", rule, rule)
    return rule


def negated(times, rule):
    """The rule behind so many "not"."""
    for _ in range(times):
        rule = ("not", rule)
    return rule


def plainly_keeps(machines, rule, filling):
    """If the filling keeps the rule, by the words of point 80."""
    if rule[0] == "takes":
        return text_of(rule[2], filling) in machines[rule[1]]
    inner = [plainly_keeps(machines, one, filling) for one in rule[1:]]
    return {"not": not inner[0], "both": all(inner), "either": any(inner)}[rule[0]]


class CheckingRules(unittest.TestCase):

    def setUp(self):
        self.book = book("ab", "X a = Y X~")
        self.machines = [even_machine(), beginner("ab", "b")]

    def test_rules(self):
        for rule in [takes("X"), takes("X~ a Y b", 1), takes(""), takes("X " * 8), ("not", takes("Y")),
                     ("both", takes("X"), ("either", takes("Y"), ("not", takes("a", 1)))), ("not", ("not", ("not", takes("b"))))]:
            with self.subTest(rule):
                self.assertIsNone(check_rule(self.book, self.machines, rule))
                self.assertIsNone(check_rule(self.book, tuple(self.machines), rule))

    def assert_bad(self, rule):
        filling = {"X": "", "Y": "a"}
        vector = vector_of(self.book, self.machines, filling)
        for call in (lambda: check_rule(self.book, self.machines, rule), lambda: keeps(self.book, self.machines, rule, filling),
                     lambda: keeps(self.book, self.machines, rule, {}), lambda: vector_keeps(self.book, self.machines, rule, vector),
                     lambda: vector_keeps(self.book, self.machines, rule, ())):
            with self.assertRaises(BadRule):
                call()

    def test_values_that_are_no_rules(self):
        good = takes("X")
        for rule in [(), 0, "takes", ("takes",), ("takes", 0), ("takes", 0, ("X",), 0), ("takes", 0, ("X",), ("X",)), ("not",),
                     ("not", good, good), ("both", good), ("both", good, good, good), ("either",), ("either", good), ("neither", good, good),
                     ("Takes", 0, ("X",)), (0, 0, ("X",)), ((), 0, ("X",)), (good,), (good, good), ("", good), (("not",), good)]:
            with self.subTest(rule):
                self.assert_bad(rule)

    def test_numbers_of_machines_that_are_none(self):
        for number in [2, -1, 100, "0", (0,), (), "X"]:
            with self.subTest(number):
                self.assert_bad(("takes", number, ("X",)))

    def test_rows_that_are_none(self):
        for row in ["X", "", 0, "ab", ("c",), ("Z",), ("X~~",), ("",), ("#",), ("ab",), ("X", 0), (("X",),), ((),), ("X", ("a",)), ("~",),
                    ("x",), ("a~",), ("X", "Y", "Z~")]:
            with self.subTest(row):
                self.assert_bad(("takes", 0, row))

    def test_rows_of_eight_and_nine_symbols(self):
        self.assertIsNone(check_rule(self.book, self.machines, takes("X X~ Y Y~ a b X X")))
        self.assert_bad(takes("X X~ Y Y~ a b X X a"))
        self.assert_bad(takes("a " * 20))

    def test_bad_rules_inside_of_rules(self):
        good = takes("X")
        for bad in [takes("Z"), takes("X", 2), (), "X", 0, ("not",), takes("a " * 9)]:
            for rule in [("not", bad), ("both", good, bad), ("either", bad, good), ("not", ("both", ("not", good), ("either", good, bad)))]:
                with self.subTest(rule):
                    self.assert_bad(rule)

    def test_the_number_of_nodes(self):
        self.assertIsNone(check_rule(self.book, self.machines, balanced(4, takes("X"))))
        self.assert_bad(("not", balanced(4, takes("X"))))
        self.assertIsNone(check_rule(self.book, self.machines, negated(30, takes("X"))))
        self.assert_bad(negated(31, takes("X")))

    def test_a_rule_is_counted_at_each_of_its_places(self):
        self.assert_bad(balanced(5, takes("X")))
        self.assert_bad(balanced(40, takes("X")))
        self.assertIsNone(check_rule(self.book, self.machines, ("either", balanced(3, takes("Y")), negated(13, takes("Y")))))
        self.assertIsNone(check_rule(self.book, self.machines, ("either", balanced(3, takes("Y")), negated(14, takes("Y")))))
        self.assert_bad(("either", balanced(3, takes("Y")), negated(15, takes("Y"))))

    def test_deep_values(self):
        self.assert_bad(negated(5000, takes("X")))
        self.assert_bad(negated(5000, ()))
        rule = takes("X")
        for _ in range(3000):
            rule = ("either", takes("X"), rule)
        self.assert_bad(rule)

    def test_machines(self):
        four = Machine("ab", [[0, 1]] * 4, [0])
        for machines in [[], [even_machine()] * 4, [Machine.taking_all("a")], [even_machine(), Machine.taking_all("abc")], ()]:
            for call in (lambda: check_rule(self.book, machines, takes("X")), lambda: check_rule(self.book, machines, ()),
                         lambda: keeps(self.book, machines, "no rule", {"Z": ""}), lambda: vector_of(self.book, machines, {"Z": ""}),
                         lambda: vector_keeps(self.book, machines, (), ())):
                with self.assertRaises(BadMachine):
                    call()
        self.assertIsNone(check_rule(self.book, [four, even_machine(), four], takes("X", 2)))

    def test_the_pieces_and_the_alphabet_are_those_of_the_book(self):
        self.assertIsNone(check_rule(Book("ab"), self.machines, takes("a b")))
        with self.assertRaises(BadRule):
            check_rule(Book("ab"), self.machines, takes("X"))
        with self.assertRaises(BadMachine):
            check_rule(Book("abc"), self.machines, takes("a"))


class KeepingRules(unittest.TestCase):

    def setUp(self):
        self.book = book("ab", "X a = Y X~")
        self.machines = [even_machine(), ender("ab", "b"), holder("ab", "ba")]
        self.rules = [takes("X"), takes("X~ b Y", 1), takes("X X X", 2), takes("", 0), takes("", 1), ("not", takes("Y~ X", 1)),
                      ("both", takes("X"), takes("Y", 1)), ("either", takes("X", 2), takes("Y", 1)),
                      ("both", ("not", takes("X", 1)), ("either", takes("Y"), ("not", takes("X a Y~ b", 2)))),
                      ("either", ("both", takes("X"), takes("X", 1)), ("not", ("not", takes("Y", 2)))), negated(30, takes("X Y"))]

    def test_small_rules(self):
        filling = {"X": "ab", "Y": "b"}
        for rule, kept in [(takes("X"), False), (takes("X Y a"), True), (takes("X", 1), True), (takes("X~", 1), False),
                           (takes("X Y", 2), False), (takes("Y~ X~", 2), True), (("not", takes("X")), True),
                           (("both", takes("X", 1), takes("X", 2)), False), (("either", takes("X", 2), takes("X", 1)), True)]:
            self.assertIs(keeps(self.book, self.machines, rule, filling), kept)
            self.assertIs(vector_keeps(self.book, self.machines, rule, vector_of(self.book, self.machines, filling)), kept)

    def test_the_empty_row(self):
        filling = {"X": "a", "Y": "b"}
        self.assertIs(keeps(self.book, [even_machine()], takes(""), filling), True)
        self.assertIs(keeps(self.book, [ender("ab", "a")], takes(""), filling), False)

    def test_fillings_and_their_vectors_keep_the_same_rules(self):
        for one, other in itertools.product(texts_up_to("ab", 3), repeat=2):
            filling = {"X": one, "Y": other}
            vector = vector_of(self.book, self.machines, filling)
            for rule in self.rules:
                kept = plainly_keeps(self.machines, rule, filling)
                self.assertIs(keeps(self.book, self.machines, rule, filling), kept)
                self.assertIs(vector_keeps(self.book, self.machines, rule, vector), kept)

    def test_vectors(self):
        asked = book("ab", "Z A = B Z~")
        for texts in itertools.product(["", "a", "bab", "aab"], repeat=3):
            filling = dict(zip(("Z", "B", "A"), texts))
            found = vector_of(asked, self.machines, filling)
            self.assertEqual(found, tuple(plain_effect(self.machines, filling[name]) for name in ("A", "B", "Z")))
        self.assertEqual(vector_of(Book("ab"), self.machines, {}), ())

    def test_a_book_without_pieces(self):
        asked = book("ab", "a = b")
        self.assertIs(keeps(asked, self.machines, takes("a a"), {}), True)
        self.assertIs(vector_keeps(asked, self.machines, takes("a a b a", 0), ()), False)

    def test_bad_fillings(self):
        for filling, name in [({}, "X"), ({"X": ""}, "Y"), ({"X": "c", "Y": "?"}, "X"), ({"X": "", "Y": "", "Z": ""}, "Z"),
                              ({"A": "", "Y": ""}, "A"), ({"X": "", "Y": "A"}, "Y")]:
            for call in (lambda: keeps(self.book, self.machines, takes("X"), filling), lambda: vector_of(self.book, self.machines, filling)):
                with self.subTest(filling), self.assertRaises(BadFilling) as caught:
                    call()
                self.assertEqual(caught.exception.name, name)

    def test_the_arguments_stay_as_they_are(self):
        filling, machines = {"Y": "b", "X": "ab"}, list(self.machines)
        for rule in self.rules:
            keeps(self.book, machines, rule, filling)
            vector_keeps(self.book, machines, rule, vector_of(self.book, machines, filling))
        self.assertEqual((list(filling.items()), machines), ([("Y", "b"), ("X", "ab")], self.machines))


if __name__ == "__main__":
    unittest.main()
