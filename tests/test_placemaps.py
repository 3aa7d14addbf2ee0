"""Points 107 and 109: twiceeach.placemaps."""

import itertools
import unittest

from tests.test_exchanges import all_exchanges
from twiceeach.errors import BadExchange, TooLarge
from twiceeach.exchanges import Exchange
from twiceeach.placemaps import back_map, blocks_of, chained, place_map, rounds

SIGNS = "abcdefghijklmnopqrstuvwxyz"
NO_MAPS = [(1,), (-1,), (0, 0), (0, 2), (1, 2), (0, 1, 1), (0, 1, 3), (-1, 0), (-1, 0, 1), (1, 2, 3), (2, 2, 2), (0, 0, 1, 2)]


def all_maps(many):
    """All maps of so many places."""
    return list(itertools.permutations(range(many)))


def cut_text(text, lengths):
    """The pieces of the text, one behind the other, with the lengths."""
    pieces = []
    for length in lengths:
        pieces.append(text[:length])
        text = text[length:]
    return pieces


def plain_stretches(source, turned):
    """The stretches of a map, each as long as possible, by asking of each part of the map whether it is one."""
    found = []
    at = 0
    while at < len(source):
        ends = [end for end in range(at + 1, len(source) + 1) if is_stretch(source[at:end], turned)]
        found.append(source[at:max(ends)])
        at = max(ends)
    return found


def is_stretch(part, turned):
    """By the words of point 109."""
    steps = [other - one for one, other in zip(part, part[1:])]
    return all(step == 1 for step in steps) or (turned and all(step == -1 for step in steps))


class MapsOfExchanges(unittest.TestCase):

    def test_small_maps(self):
        self.assertEqual(place_map(Exchange((2, -1)), (3, 2)), (3, 4, 2, 1, 0))
        self.assertEqual(place_map(Exchange((2, 1)), [1, 2]), (1, 2, 0))
        self.assertEqual(place_map(Exchange((-3, 1, -2)), (1, 2, 3)), (5, 4, 3, 0, 2, 1))
        self.assertEqual(place_map(Exchange((2, 1)), (0, 2)), (0, 1))
        self.assertEqual(place_map(Exchange((2, -1)), (0, 0)), ())
        self.assertEqual(place_map(Exchange(()), ()), ())
        self.assertEqual(place_map(Exchange(()), []), ())

    def test_the_entries_are_the_places_of_the_letters_of_the_exchanged_text(self):
        for many in range(4):
            for exchange in all_exchanges(many):
                for lengths in itertools.product(range(4), repeat=many):
                    text = SIGNS[:sum(lengths)]
                    exchanged = exchange(cut_text(text, lengths))
                    found = place_map(exchange, lengths)
                    self.assertEqual(found, tuple(text.index(letter) for letter in exchanged))
                    self.assertEqual(sorted(found), list(range(len(text))))

    def test_lengths_at_their_limits(self):
        self.assertEqual(place_map(Exchange((-1,)), (30,)), tuple(range(29, -1, -1)))
        self.assertEqual(len(place_map(Exchange(range(1, 13)), [30] * 12)), 360)
        self.assertEqual(place_map(Exchange((2, 1)), (0, 30)), tuple(range(30)))
        for lengths in [(31, 0), (0, 31), (-1, 2), (2, -1), (100, 100)]:
            with self.subTest(lengths), self.assertRaises(BadExchange):
                place_map(Exchange((2, 1)), lengths)

    def test_too_few_and_too_many_lengths(self):
        for blocks, lengths in [((2, 1), (1,)), ((2, 1), (1, 1, 1)), ((2, 1), ()), ((), (0,)), ((1,), [])]:
            with self.subTest((blocks, lengths)), self.assertRaises(BadExchange):
                place_map(Exchange(blocks), lengths)

    def test_arguments_are_not_changed(self):
        lengths = [1, 2]
        place_map(Exchange((2, -1)), lengths)
        self.assertEqual(lengths, [1, 2])


class ChainsAndRounds(unittest.TestCase):

    def test_small_maps(self):
        self.assertEqual(chained((1, 2, 0), (0, 2, 1)), (1, 0, 2))
        self.assertEqual(chained((0, 2, 1), (1, 2, 0)), (2, 1, 0))
        self.assertEqual(back_map((1, 2, 0)), (2, 0, 1))
        self.assertEqual(rounds((1, 0, 2, 4, 3)), ((0, 1), (2,), (3, 4)))
        self.assertEqual(rounds((2, 3, 4, 1, 0)), ((0, 2, 4), (1, 3)))

    def test_the_empty_map(self):
        self.assertEqual((chained((), ()), back_map(()), rounds(())), ((), (), ()))

    def test_the_entry_of_the_first_map_at_the_entry_of_the_second_one(self):
        for many in range(5):
            for first, second in itertools.product(all_maps(many), repeat=2):
                self.assertEqual(chained(first, second), tuple(first[second[at]] for at in range(many)))

    def test_there_and_back(self):
        for many in range(6):
            for source in all_maps(many):
                plain = tuple(range(many))
                self.assertEqual((chained(source, back_map(source)), chained(back_map(source), source)), (plain, plain))

    def test_rounds_follow_the_entries(self):
        for many in range(6):
            for source in all_maps(many):
                found = rounds(source)
                self.assertEqual(sorted(place for lot in found for place in lot), list(range(many)))
                self.assertEqual(list(found), sorted(found))
                for lot in found:
                    place, met = lot[0], []
                    while place not in met:
                        met.append(place)
                        place = source[place]
                    self.assertEqual(tuple(sorted(met)), lot)

    def test_products_and_ways_back_of_exchanges(self):
        for many in range(4):
            for first, second in itertools.product(all_exchanges(many), repeat=2):
                lengths = (2, 1, 3)[:many]
                between = [lengths[abs(block) - 1] for block in first.blocks]
                one, other = place_map(first, lengths), place_map(second, between)
                self.assertEqual(place_map(first * second, lengths), chained(one, other))
                self.assertEqual(place_map(~first, between), back_map(one))

    def test_maps_of_different_sizes(self):
        for first, second in [((0,), ()), ((), (0,)), ((0, 1), (0,)), ((1, 0), (2, 0, 1))]:
            with self.assertRaises(BadExchange):
                chained(first, second)

    def test_tuples_that_are_nearly_maps(self):
        for source in NO_MAPS:
            plain = tuple(range(len(source)))
            for call in [lambda: chained(source, plain), lambda: chained(plain, source), lambda: back_map(source),
                         lambda: rounds(source), lambda: blocks_of(source), lambda: blocks_of(source, turned=True)]:
                with self.subTest(source), self.assertRaises(BadExchange):
                    call()


class BlocksOfMaps(unittest.TestCase):

    def told(self, source, turned):
        """The blocks and the lengths."""
        made, lengths = blocks_of(source, turned=turned)
        self.assertIsInstance(made, Exchange)
        return made.blocks, lengths

    def test_small_maps(self):
        self.assertEqual(self.told((3, 4, 2, 1, 0), True), ((2, -1), (3, 2)))
        self.assertEqual(self.told((3, 4, 2, 1, 0), False), ((4, 3, 2, 1), (1, 1, 1, 2)))
        self.assertEqual(self.told((0, 1, 2), True), ((1,), (3,)))
        self.assertEqual(self.told((2, 1, 0), True), ((-1,), (3,)))
        self.assertEqual(self.told((2, 1, 0), False), ((3, 2, 1), (1, 1, 1)))
        self.assertEqual(self.told((1, 2, 4, 3, 0), True), ((2, -3, 1), (1, 2, 2)))

    def test_one_entry_is_not_turned(self):
        self.assertEqual(self.told((0,), True), ((1,), (1,)))
        self.assertEqual(self.told((1, 3, 0, 2), True), ((2, 4, 1, 3), (1, 1, 1, 1)))

    def test_turned_stretches_are_not_allowed_if_nothing_is_said(self):
        self.assertEqual(blocks_of((1, 0))[0].blocks, (2, 1))
        self.assertEqual(blocks_of((1, 0), turned=True)[0].blocks, (-1,))

    def test_the_empty_map(self):
        for turned in (False, True):
            self.assertEqual(self.told((), turned), ((), ()))

    def test_twelve_and_thirteen_stretches(self):
        self.assertEqual(self.told(tuple(range(11, -1, -1)), False), (tuple(range(12, 0, -1)), (1,) * 12))
        with self.assertRaises(TooLarge) as caught:
            blocks_of(tuple(range(12, -1, -1)))
        self.assertEqual((caught.exception.what, caught.exception.limit), ("blocks", 12))
        self.assertEqual(self.told(tuple(range(12, -1, -1)), True), ((-1,), (13,)))
        odd_first = tuple(range(1, 26, 2)) + tuple(range(0, 26, 2))
        for turned in (False, True):
            with self.assertRaises(TooLarge):
                blocks_of(odd_first, turned=turned)

    def test_lengths_above_thirty(self):
        self.assertEqual(self.told(tuple(range(100)), False), ((1,), (100,)))
        self.assertEqual(self.told(tuple(range(50, 100)) + tuple(range(50)), False), ((2, 1), (50, 50)))

    def test_a_tuple_that_is_no_map_is_refused_ahead_of_the_stretches(self):
        with self.assertRaises(BadExchange):
            blocks_of(tuple(range(20, 0, -1)))

    def test_the_exchange_has_the_map_and_its_blocks_are_the_stretches(self):
        for many in range(7):
            for source, turned in itertools.product(all_maps(many), [False, True]):
                made, lengths = blocks_of(source, turned=turned)
                parts = plain_stretches(source, turned)
                self.assertEqual(place_map(made, lengths), source)
                self.assertEqual([lengths[abs(block) - 1] for block in made.blocks], [len(part) for part in parts])
                self.assertEqual([block < 0 for block in made.blocks], [part[0] > part[-1] for part in parts])

    def test_no_exchange_with_fewer_blocks_has_the_map(self):
        fewest = {}
        for many in range(4):
            for exchange in all_exchanges(many):
                for lengths in itertools.product(range(5), repeat=many):
                    if sum(lengths) <= 4:
                        source = place_map(exchange, lengths)
                        for turned in [True] if min(exchange.blocks, default=1) < 0 else [False, True]:
                            fewest[source, turned] = min(many, fewest.get((source, turned), many))
        for (source, turned), many in fewest.items():
            self.assertEqual(len(blocks_of(source, turned=turned)[1]), many)


if __name__ == "__main__":
    unittest.main()
