"""Points 76 to 78: twiceeach.makers."""

import itertools
import unittest

from tests.samples import texts_up_to
from tests.test_machines import some_machines
from twiceeach.errors import BadLetters, BadMachine, BadSymbol
from twiceeach.machines import Machine
from twiceeach.makers import beginner, counter, ender, holder, opposite


class Makers(unittest.TestCase):

    def test_counters(self):
        machine = counter("abc", "b", 3, 2)
        self.assertEqual((machine.letters, machine.table, machine.good), ("abc", ((0, 1, 0), (1, 2, 1), (2, 0, 2)), (2,)))
        for letters, rests in itertools.product(["a", "ab", "bcx"], range(1, 5)):
            for letter, rest in itertools.product(letters, range(rests)):
                machine = counter(letters, letter, rests, rest)
                self.assertEqual((len(machine.table), machine.good), (rests, (rest,)))
                for text in texts_up_to(letters, 5):
                    self.assertIs(text in machine, text.count(letter) % rests == rest)
                    self.assertEqual(machine.run(text), text.count(letter) % rests)

    def test_beginners(self):
        machine = beginner("ab", "b")
        self.assertEqual((machine.letters, machine.table, machine.good), ("ab", ((2, 1), (1, 1), (2, 2)), (1,)))
        self.assertEqual(beginner("a", "a").table, ((1,), (1,), (2,)))
        for letter in "abc":
            for text in texts_up_to("abc", 4):
                self.assertIs(text in beginner("abc", letter), text.startswith(letter))

    def test_enders(self):
        machine = ender("ab", "b")
        self.assertEqual((machine.letters, machine.table, machine.good), ("ab", ((0, 1), (0, 1)), (1,)))
        self.assertEqual(ender("a", "a").table, ((1,), (1,)))
        for letter in "abc":
            for text in texts_up_to("abc", 4):
                self.assertIs(text in ender("abc", letter), text.endswith(letter))

    def test_holders(self):
        machine = holder("ab", "aab")
        self.assertEqual((machine.letters, machine.table, machine.good), ("ab", ((1, 0), (2, 0), (2, 3), (3, 3)), (3,)))
        self.assertEqual(holder("ab", "aba").table, ((1, 0), (1, 2), (3, 0), (3, 3)))
        self.assertEqual(holder("abc", "c").table, ((0, 0, 1), (1, 1, 1)))
        for letters in ["ab", "abc"]:
            for pattern in texts_up_to(letters, 3)[1:]:
                machine = holder(letters, pattern)
                self.assertEqual((len(machine.table), machine.good), (len(pattern) + 1, (len(pattern),)))
                for text in texts_up_to(letters, 6 if letters == "ab" else 4):
                    self.assertIs(text in machine, pattern in text)

    def test_the_state_of_a_holder_is_the_longest_beginning(self):
        for pattern in texts_up_to("ab", 3)[1:]:
            for text in texts_up_to("ab", 5):
                ends = [length for length in range(len(pattern) + 1) if text.endswith(pattern[:length])]
                self.assertEqual(holder("ab", pattern).run(text), len(pattern) if pattern in text else max(ends))

    def test_opposites(self):
        machine = opposite(Machine("ab", [[1, 0], [2, 2], [0, 1]], [2, 0]))
        self.assertEqual((machine.letters, machine.table, machine.good), ("ab", ((1, 0), (2, 2), (0, 1)), (1,)))
        self.assertEqual(opposite(Machine.taking_all("a")).good, ())
        for one in some_machines("ab"):
            before = (one.table, one.good)
            for text in texts_up_to("ab", 4):
                self.assertIs(text in opposite(one), text not in one)
            self.assertEqual(opposite(opposite(one)).good, one.good)
            self.assertEqual((one.table, one.good), before)


class WrongInputs(unittest.TestCase):

    def calls(self, letters, letter):
        """Calls of the three makers of machines of a letter."""
        return [lambda: counter(letters, letter, 2, 1), lambda: beginner(letters, letter), lambda: ender(letters, letter)]

    def test_bad_alphabets(self):
        for letters in ["", "ba", "abcde", "aa", "A"]:
            for call in [*self.calls(letters, "a"), *self.calls(letters, ""), lambda: holder(letters, "a"), lambda: holder(letters, ""),
                         lambda: counter(letters, "?", 9, 9)]:
                with self.subTest(letters), self.assertRaises(BadLetters) as caught:
                    call()
                self.assertEqual(caught.exception.letters, letters)

    def test_letters_that_are_none(self):
        for letter in ["c", "", "ab", "X", "#", "aa"]:
            for call in [*self.calls("ab", letter), lambda: counter("ab", letter, 0, 0), lambda: counter("ab", letter, 5, 9)]:
                with self.subTest(letter), self.assertRaises(BadSymbol) as caught:
                    call()
                self.assertEqual(caught.exception.symbol, letter)

    def test_rests(self):
        for rests, rest in [(0, 0), (5, 0), (-1, 0), (2, 2), (2, -1), (4, 4), (1, 1), (0, -1)]:
            with self.subTest((rests, rest)), self.assertRaises(BadMachine):
                counter("ab", "a", rests, rest)
        self.assertEqual(len(counter("ab", "a", 1, 0).table), 1)
        self.assertEqual(len(counter("ab", "a", 4, 3).table), 4)

    def test_patterns(self):
        for pattern in ["", "abab", "????", "aaaaaaa"]:
            with self.subTest(pattern), self.assertRaises(BadMachine):
                holder("ab", pattern)
        for pattern, symbol in [("c", "c"), ("ac", "c"), ("Xa?", "X"), ("a?X", "?"), ("a c", " ")]:
            with self.subTest(pattern), self.assertRaises(BadSymbol) as caught:
                holder("ab", pattern)
            self.assertEqual(caught.exception.symbol, symbol)


if __name__ == "__main__":
    unittest.main()
