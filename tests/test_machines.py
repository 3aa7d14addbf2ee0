"""Points 67 to 70: twiceeach.machines."""

import itertools
import unittest

from tests.samples import texts_up_to
from twiceeach.errors import BadLetters, BadMachine, TooLarge
from twiceeach.machines import Machine, check_machines


def even_machine():
    """The machine over ab that takes the texts with an even number of the letter a."""
    return Machine("ab", [[1, 0], [0, 1]], [0])


def some_machines(letters):
    """Machines with 1 to 4 states whose tables look like thrown ones."""
    made = []
    for many in range(1, 5):
        for seed in range(3):
            table = [[(seed + state * state + place + seed * place) % many for place in range(len(letters))] for state in range(many)]
            made.append(Machine(letters, table, [state for state in range(many) if (state + seed) % 2 == 0]))
    return made


class Creating(unittest.TestCase):

    def test_fields(self):
        machine = Machine("ab", [[1, 0], (2, 1), [2, 2]], [2, 0])
        self.assertEqual((machine.letters, machine.table, machine.good), ("ab", ((1, 0), (2, 1), (2, 2)), (0, 2)))

    def test_good_states_in_any_order_and_several_times(self):
        self.assertEqual(Machine("a", [[0], [1], [0]], (2, 0, 2, 2, 0)).good, (0, 2))
        self.assertEqual(Machine("a", [[0]], []).good, ())

    def test_one_state_and_four(self):
        self.assertEqual(Machine("abcd", [[0, 0, 0, 0]], [0]).table, ((0, 0, 0, 0),))
        self.assertEqual(len(Machine("a", [[1], [2], [3], [0]], [3]).table), 4)
        self.assertEqual(Machine.MOST_STATES, 4)
        self.assertEqual(even_machine().MOST_STATES, 4)

    def test_bad_alphabets(self):
        for letters in ["", "ba", "aa", "abcde", "A", "a b", "ab1"]:
            with self.subTest(letters), self.assertRaises(BadLetters) as caught:
                Machine(letters, [[0] * len(letters)], [0])
            self.assertEqual(caught.exception.letters, letters)

    def test_bad_tables(self):
        for table in [[], [[0]], [[0, 0, 0]], [[0, 1]], [[0, -1]], [[0, 0], [0]], [[0, 0], []], [[1, 1], [2, 0]], [[0, 0]] * 5,
                      [[-1, 0]], [[0, 0], [0, 0], [0, 0], [0, 4]], [[]]]:
            with self.subTest(table), self.assertRaises(BadMachine):
                Machine("ab", table, [])

    def test_bad_good_states(self):
        for good in [[1], [-1], [0, 1], [0, 0, 7]]:
            with self.subTest(good), self.assertRaises(BadMachine):
                Machine("ab", [[0, 0]], good)

    def test_the_alphabet_is_asked_first(self):
        with self.assertRaises(BadLetters) as caught:
            Machine("ba", [[0, 9]] * 7, [12])
        self.assertEqual(caught.exception.letters, "ba")

    def test_what_it_is_given_is_copied(self):
        table, good = [[0, 1], [1, 0]], [1, 0]
        machine = Machine("ab", table, good)
        table[0][0] = 1
        table.append([0, 0])
        good.clear()
        self.assertEqual((machine.table, machine.good), (((0, 1), (1, 0)), (0, 1)))
        self.assertIs("" in machine, True)

    def test_the_arguments_stay_as_they_are(self):
        table, good = [[0, 1], [1, 0]], [1, 0, 1]
        Machine("ab", table, good)
        self.assertEqual((table, good), ([[0, 1], [1, 0]], [1, 0, 1]))


class Running(unittest.TestCase):

    def test_run(self):
        machine = Machine("abc", [[1, 0, 2], [1, 2, 0], [2, 2, 1]], [2])
        self.assertEqual(machine.run(""), 0)
        self.assertEqual(machine.run("ab"), 2)
        self.assertEqual(machine.run("abcc"), 0)
        self.assertEqual(machine.run("c", begin=1), 0)
        self.assertEqual(machine.run("", begin=2), 2)
        for text in texts_up_to("abc", 4):
            state = 0
            for letter in text:
                state = machine.table[state]["abc".index(letter)]
            self.assertEqual(machine.run(text), state)
            self.assertIs(text in machine, state == 2)

    def test_a_text_runs_in_parts(self):
        for machine in some_machines("ab"):
            for text in texts_up_to("ab", 4):
                for at, state in itertools.product(range(len(text) + 1), range(len(machine.table))):
                    self.assertEqual(machine.run(text[at:], begin=machine.run(text[:at], begin=state)), machine.run(text, begin=state))

    def test_taking(self):
        self.assertEqual([text for text in texts_up_to("ab", 2) if text in even_machine()], ["", "b", "aa", "bb"])
        self.assertIs("a" in even_machine(), False)

    def test_a_machine_without_good_states_takes_nothing(self):
        machine = Machine("ab", [[0, 0]], [])
        self.assertFalse(any(text in machine for text in texts_up_to("ab", 3)))

    def test_taking_all(self):
        for letters in ["a", "ab", "xyz", "abcd"]:
            machine = Machine.taking_all(letters)
            self.assertEqual((machine.letters, machine.table, machine.good), (letters, ((0,) * len(letters),), (0,)))
            self.assertTrue(all(text in machine for text in texts_up_to(letters, 2)))
        for letters in ["", "ba", "abcde", "#"]:
            with self.assertRaises(BadLetters) as caught:
                Machine.taking_all(letters)
            self.assertEqual(caught.exception.letters, letters)


class Products(unittest.TestCase):

    def test_states_letters_and_good_states(self):
        first = Machine("ab", [[1, 0], [0, 1]], [0, 1])
        second = Machine("ab", [[0, 1], [1, 1]], [1])
        made = first * second
        self.assertEqual(made.letters, "ab")
        self.assertEqual(made.table, ((2, 1), (3, 1), (0, 3), (1, 3)))
        self.assertEqual(made.good, (1, 3))
        self.assertEqual((second * first).table, ((1, 2), (0, 3), (3, 2), (2, 3)))
        self.assertEqual((second * first).good, (2, 3))

    def test_three_states_and_one(self):
        three = Machine("ab", [[1, 2], [2, 0], [0, 0]], [1, 2])
        self.assertEqual((three * Machine.taking_all("ab")).table, three.table)
        self.assertEqual((Machine.taking_all("ab") * three).good, three.good)

    def test_too_many_states(self):
        three = Machine("ab", [[1, 2], [2, 0], [0, 0]], [1, 2])
        four = Machine("ab", [[0, 1]] * 4, [0])
        self.assertEqual(len((four * Machine.taking_all("ab")).table), 4)
        for first, second in [(three, even_machine()), (even_machine(), three), (four, four)]:
            with self.assertRaises(TooLarge) as caught:
                first * second
            self.assertEqual((caught.exception.what, caught.exception.limit), ("states", 4))

    def test_other_alphabets(self):
        four = Machine("abc", [[0, 1, 2]] * 4, [0])
        for first, second in [(even_machine(), four), (four, even_machine()), (Machine.taking_all("a"), Machine.taking_all("b"))]:
            with self.assertRaises(BadMachine):
                first * second

    def test_it_takes_what_both_take(self):
        for letters in ["a", "ab"]:
            for first, second in itertools.product(some_machines(letters), repeat=2):
                if len(first.table) * len(second.table) <= 4:
                    before = [(one.table, one.good) for one in (first, second)]
                    made = first * second
                    for text in texts_up_to(letters, 5):
                        self.assertIs(text in made, text in first and text in second)
                        self.assertEqual(made.run(text), first.run(text) * len(second.table) + second.run(text))
                    self.assertEqual([(one.table, one.good) for one in (first, second)], before)


class MachinesOfACall(unittest.TestCase):

    def test_one_to_three_machines(self):
        for many in (1, 2, 3):
            self.assertIsNone(check_machines("ab", [even_machine()] * many))
            self.assertIsNone(check_machines("ab", (even_machine(),) * many))
        for many in (0, 4, 5):
            with self.assertRaises(BadMachine):
                check_machines("ab", [even_machine()] * many)

    def test_other_alphabets(self):
        for letters in ["a", "abc", "bc", "", "ba"]:
            with self.assertRaises(BadMachine):
                check_machines(letters, [even_machine()])
        with self.assertRaises(BadMachine):
            check_machines("ab", [even_machine(), even_machine(), Machine.taking_all("a")])


if __name__ == "__main__":
    unittest.main()
