"""Points 73 to 75: twiceeach.closing."""

import unittest

from tests.samples import texts_up_to
from tests.test_effects import plain_effect
from tests.test_machines import even_machine, some_machines
from twiceeach.closing import Closing
from twiceeach.effects import combine, effect, turn, unit
from twiceeach.errors import BadMachine, TooLarge
from twiceeach.machines import Machine
from twiceeach.makers import beginner, counter, ender, holder


def sixty():
    """Machines with exactly 60 effects."""
    return [counter("ab", "a", 3, 0), counter("ab", "a", 4, 0), holder("ab", "aa")]


def sixty_one():
    """Machines with exactly 61 effects."""
    return [counter("ab", "a", 2, 0), counter("ab", "a", 3, 0), holder("ab", "aab")]


def many_effects():
    """A machine with more than a thousand effects."""
    return Machine("ab", [[1, 3], [2, 0], [0, 3], [0, 1]], [0])


def first_texts(machines, texts):
    """The first text with each effect, by the words of point 71."""
    found = {}
    for text in texts:
        found.setdefault(plain_effect(machines, text), text)
    return found


def all_effects(machines):
    """The effects of all texts that are not empty, found from those of the letters."""
    steps = [effect(machines, letter) for letter in machines[0].letters]
    found = dict.fromkeys(steps)
    waiting = list(found)
    for worth in waiting:
        for step in steps:
            longer = combine(worth, step)
            if longer not in found:
                found[longer] = True
                waiting.append(longer)
    return waiting


def small_sets():
    """Machines of calls that have few effects."""
    return [[even_machine()], [beginner("ab", "a")], [ender("ab", "a"), beginner("ab", "b")], [holder("ab", "ab")],
            [counter("ab", "a", 3, 1)], [Machine.taking_all("ab")], [counter("a", "a", 4, 1)], [Machine("abc", [[0, 1, 1], [1, 0, 0]], [])],
            *[[machine] for machine in some_machines("ab") if len(machine.table) < 4]]


class Closings(unittest.TestCase):

    def test_a_small_closing(self):
        machines = [even_machine()]
        closing = Closing(machines)
        odd, even = (((1, 0), (1, 0)),), (((0, 1), (0, 1)),)
        self.assertEqual((closing.effects, closing.mirrors), ((odd, even), (odd, even)))
        self.assertEqual([closing.least(odd), closing.least(even), closing.least_mirror(odd), closing.least_mirror(even)],
                         ["a", "b", "a", "b"])

    def test_the_unit_is_there_only_if_a_text_that_is_not_empty_has_it(self):
        machines = [beginner("ab", "a")]
        self.assertNotIn(unit(machines), Closing(machines).effects)
        self.assertIsNone(Closing(machines).least(unit(machines)))
        self.assertIsNone(Closing(machines).least_mirror(unit(machines)))
        closing = Closing([counter("a", "a", 3, 0)])
        self.assertEqual(closing.least(unit([counter("a", "a", 3, 0)])), "aaa")
        self.assertEqual(closing.least_mirror(unit([counter("a", "a", 3, 0)])), "aaa")

    def test_effects_are_those_of_all_texts_in_the_order_of_their_least_texts(self):
        for machines in small_sets():
            closing = Closing(machines)
            letters = machines[0].letters
            found = first_texts(machines, texts_up_to(letters, 9 if len(letters) < 3 else 5)[1:])
            self.assertEqual(closing.effects, tuple(found))
            self.assertEqual([closing.least(worth) for worth in closing.effects], list(found.values()))

    def test_mirrors_are_those_of_all_texts_that_are_their_own_mirrors(self):
        for machines in small_sets():
            closing = Closing(machines)
            letters = machines[0].letters
            texts = [text for text in texts_up_to(letters, 11 if len(letters) < 3 else 6)[1:] if text == text[::-1]]
            found = first_texts(machines, texts)
            self.assertEqual(closing.mirrors, tuple(found))
            self.assertEqual([closing.least_mirror(worth) for worth in closing.mirrors], list(found.values()))

    def test_large_closings(self):
        for machines in [sixty(), [ender("ab", "a"), holder("ab", "aba"), beginner("ab", "b")]]:
            closing = Closing(machines)
            self.assertLessEqual(len(closing.effects), 60)
            self.assertEqual(len(set(closing.effects)), len(closing.effects))
            texts = [closing.least(worth) for worth in closing.effects]
            self.assertEqual(texts, sorted(texts, key=lambda text: (len(text), text)))
            for worth, text in zip(closing.effects, texts):
                self.assertEqual(plain_effect(machines, text), worth)
                self.assertIn(turn(worth), closing.effects)
                self.assertTrue(all(combine(worth, effect(machines, letter)) in closing.effects for letter in "ab"))
                if len(text) > 1:
                    self.assertEqual(closing.least(effect(machines, text[:-1])), text[:-1])
            mirrors = [closing.least_mirror(worth) for worth in closing.mirrors]
            self.assertEqual(mirrors, sorted(mirrors, key=lambda text: (len(text), text)))
            for worth, text in zip(closing.mirrors, mirrors):
                self.assertEqual((plain_effect(machines, text), text), (worth, text[::-1]))
                if len(text) > 2:
                    self.assertEqual(closing.least_mirror(effect(machines, text[1:-1])), text[1:-1])
                for letter in "ab":
                    self.assertIn(effect(machines, letter + text + letter), closing.mirrors)

    def test_what_is_no_effect_has_no_least_text(self):
        closing = Closing([even_machine()])
        deep = ()
        for _ in range(30):
            deep = (deep,)
        for worth in [(), (0,), ((),), (((0, 1), (0, 1)), ((0, 1), (0, 1))), (((1, 0),),), (((1, 1), (1, 1)),), ((0, 1), (0, 1)), deep]:
            self.assertIsNone(closing.least(worth))
            self.assertIsNone(closing.least_mirror(worth))

    def test_an_effect_without_a_mirror_text(self):
        machines = [beginner("ab", "a"), ender("ab", "a")]
        closing = Closing(machines)
        worth = effect(machines, "ab")
        self.assertEqual(closing.least(worth), "ab")
        self.assertIsNone(closing.least_mirror(worth))
        self.assertNotIn(worth, closing.mirrors)

    def test_the_limit(self):
        self.assertEqual(Closing.LIMIT, 60)
        self.assertEqual(Closing([even_machine()]).LIMIT, 60)
        self.assertEqual(len(Closing(sixty()).effects), 60)
        self.assertEqual(len(all_effects(sixty())), 60)
        self.assertEqual(len(all_effects(sixty_one())), 61)
        self.assertGreater(len(all_effects([many_effects()])), 1000)
        for machines in [sixty_one(), [many_effects()], [many_effects()] * 3, (many_effects(), even_machine())]:
            with self.assertRaises(TooLarge) as caught:
                Closing(machines)
            self.assertEqual((caught.exception.what, caught.exception.limit), ("effects", 60))

    def test_numbers_of_machines(self):
        for many in (1, 2, 3):
            self.assertEqual(len(Closing([even_machine()] * many).effects), 2)
            self.assertEqual(len(Closing((even_machine(),) * many).effects), 2)
        for machines in [[], (), [even_machine()] * 4, [many_effects()] * 4]:
            with self.assertRaises(BadMachine):
                Closing(machines)

    def test_other_alphabets(self):
        for machines in [[even_machine(), Machine.taking_all("a")], [Machine.taking_all("abc"), many_effects()],
                         [even_machine(), even_machine(), Machine.taking_all("bc")]]:
            with self.assertRaises(BadMachine):
                Closing(machines)

    def test_later_changes_of_the_argument(self):
        machines = [even_machine()]
        closing = Closing(machines)
        effects = closing.effects
        machines[0] = beginner("ab", "a")
        machines.append(even_machine())
        self.assertEqual(closing.effects, effects)
        self.assertEqual(closing.least((((1, 0), (1, 0)),)), "a")


if __name__ == "__main__":
    unittest.main()
