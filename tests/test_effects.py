"""Points 71 and 72: twiceeach.effects."""

import itertools
import unittest

from tests.samples import text_of, texts_up_to
from tests.test_machines import even_machine, some_machines
from twiceeach.effects import combine, effect, row_effect, takes, turn, unit
from twiceeach.machines import Machine
from twiceeach.makers import beginner, ender, holder
from twiceeach.symbols import turned


def plain_effect(machines, text):
    """The effect of a text by the words of point 71."""
    found = []
    for machine in machines:
        maps = []
        for one in (text, text[::-1]):
            states = list(range(len(machine.table)))
            for letter in one:
                states = [machine.table[state][machine.letters.index(letter)] for state in states]
            maps.append(tuple(states))
        found.append(tuple(maps))
    return tuple(found)


class Effects(unittest.TestCase):

    def setUp(self):
        self.sets = [[even_machine()], [beginner("ab", "a"), ender("ab", "b")], [holder("ab", "aab"), even_machine(), ender("ab", "a")],
                     *[[machine] for machine in some_machines("ab")]]

    def test_a_small_effect(self):
        self.assertEqual(effect([ender("ab", "a")], "ab"), (((0, 0), (1, 1)),))
        self.assertEqual(effect([ender("ab", "a")], "ba"), (((1, 1), (0, 0)),))

    def test_one_pair_of_maps_for_each_machine_in_order(self):
        found = effect([ender("ab", "a"), even_machine()], "a")
        self.assertEqual(found, (((1, 1), (1, 1)), ((1, 0), (1, 0))))

    def test_effects_of_texts(self):
        for machines in self.sets:
            for text in texts_up_to("ab", 4):
                self.assertEqual(effect(machines, text), plain_effect(machines, text))

    def test_the_unit(self):
        self.assertEqual(unit([even_machine(), Machine.taking_all("ab")]), (((0, 1), (0, 1)), ((0,), (0,))))
        self.assertEqual(unit((holder("ab", "ab"),)), (((0, 1, 2), (0, 1, 2)),))
        for machines in self.sets:
            self.assertEqual(unit(machines), effect(machines, ""))

    def test_combining(self):
        first = (((1, 2, 2), (0, 0, 2)),)
        second = (((2, 0, 1), (1, 2, 0)),)
        self.assertEqual(combine(first, second), (((0, 1, 1), (0, 2, 0)),))

    def test_the_combined_effect_is_that_of_both_texts(self):
        for machines in self.sets:
            for one, other in itertools.product(texts_up_to("ab", 3), repeat=2):
                self.assertEqual(combine(effect(machines, one), effect(machines, other)), effect(machines, one + other))

    def test_the_unit_changes_nothing(self):
        for machines in self.sets:
            worth = effect(machines, "aab")
            self.assertEqual(combine(unit(machines), worth), worth)
            self.assertEqual(combine(worth, unit(machines)), worth)

    def test_turning(self):
        self.assertEqual(turn((((0, 1), (1, 1)), ((2, 0, 0), (0, 0, 0)))), (((1, 1), (0, 1)), ((0, 0, 0), (2, 0, 0))))
        for machines in self.sets:
            for text in texts_up_to("ab", 4):
                self.assertEqual(turn(effect(machines, text)), effect(machines, text[::-1]))
                self.assertEqual(turn(turn(effect(machines, text))), effect(machines, text))

    def test_effects_of_rows(self):
        machines = [ender("ab", "a"), even_machine()]
        self.assertEqual(row_effect(machines, (), {}), unit(machines))
        self.assertEqual(row_effect(machines, ("a", "b", "b"), {}), effect(machines, "abb"))
        given = {"X": effect(machines, "ab"), "Y": effect(machines, "aab"), "Z": effect(machines, "b")}
        self.assertEqual(row_effect(machines, ("X",), given), given["X"])
        self.assertEqual(row_effect(machines, ("X~",), given), turn(given["X"]))
        self.assertEqual(row_effect(machines, ("X", "a", "Y~", "X~"), given), effect(machines, "ab" + "a" + "baa" + "ba"))

    def test_the_effect_of_a_row_is_that_of_its_text(self):
        rows = [("X", "a", "X~"), ("X", "Y"), ("Y~", "b", "X~", "Y"), ("X",) * 5, ("b", "a")]
        for machines in self.sets:
            for one, other in itertools.product(texts_up_to("ab", 2), repeat=2):
                filling = {"X": one, "Y": other}
                given = {name: effect(machines, text) for name, text in filling.items()}
                for row in rows:
                    self.assertEqual(row_effect(machines, row, given), effect(machines, text_of(row, filling)))
                    self.assertEqual(row_effect(machines, turned(row), given), turn(row_effect(machines, row, given)))

    def test_taking(self):
        self.assertIs(takes(even_machine(), (0, 1)), True)
        self.assertIs(takes(even_machine(), (1, 0)), False)
        self.assertIs(takes(Machine("ab", [[0, 0]], []), (0,)), False)
        for machines in self.sets:
            for text in texts_up_to("ab", 4):
                for number, machine in enumerate(machines):
                    self.assertIs(takes(machine, effect(machines, text)[number][0]), text in machine)
                    self.assertIs(takes(machine, effect(machines, text)[number][1]), text[::-1] in machine)

    def test_the_arguments_stay_as_they_are(self):
        machines, given = [even_machine(), ender("ab", "a")], {}
        given["X"] = effect(machines, "ab")
        before = (list(machines), dict(given))
        row_effect(machines, ("X", "a", "X~"), given)
        self.assertEqual((machines, given), before)


if __name__ == "__main__":
    unittest.main()
