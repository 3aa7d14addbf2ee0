"""Points 105 and 106: twiceeach.exchanges."""

import itertools
import unittest

from tests.samples import texts_up_to
from twiceeach.errors import BadExchange, TooLarge
from twiceeach.exchanges import Exchange

TEXTS = ["ab", "c", "", "aab", "ba"]


def all_exchanges(many):
    """All exchanges of so many pieces."""
    found = []
    for order in itertools.permutations(range(1, many + 1)):
        for signs in itertools.product([1, -1], repeat=many):
            found.append(Exchange([sign * number for sign, number in zip(signs, order)]))
    return found


def plainly_rearranged(exchange, texts):
    """The rearranged texts, by the words of point 105."""
    return [texts[abs(block) - 1][::1 if block > 0 else -1] for block in exchange.blocks]


class Creating(unittest.TestCase):

    def test_blocks(self):
        self.assertEqual(Exchange((2, -1)).blocks, (2, -1))
        self.assertEqual(Exchange([3, 1, -2]).blocks, (3, 1, -2))
        self.assertEqual(Exchange(()).blocks, ())
        self.assertEqual(Exchange([-1]).blocks, (-1,))
        self.assertEqual(Exchange(tuple(range(-12, 0))).blocks, tuple(range(-12, 0)))

    def test_blocks_that_are_nearly_right(self):
        for blocks in [[0], [2], [-2], [1, 1], [1, -1], [1, 3], [0, 1], [1, 2, 2], [1, 2, 4], [-1, 1, 2], [1, 0, 2], [100], [0, 0],
                       [*range(1, 13), 12], [*range(1, 13), 14], [*range(13)], [1] * 20]:
            with self.subTest(blocks), self.assertRaises(BadExchange):
                Exchange(blocks)

    def test_twelve_and_thirteen_blocks(self):
        self.assertEqual(len(Exchange(range(1, 13)).blocks), 12)
        for blocks in [list(range(1, 14)), list(range(-13, 0)), tuple(range(40, 0, -1))]:
            with self.assertRaises(TooLarge) as caught:
                Exchange(blocks)
            self.assertEqual((caught.exception.what, caught.exception.limit), ("blocks", 12))
        self.assertEqual(Exchange.MOST, 12)
        self.assertEqual(Exchange([1]).MOST, 12)

    def test_what_it_is_given_is_copied(self):
        blocks = [2, 1]
        exchange = Exchange(blocks)
        blocks.reverse()
        blocks.append(3)
        self.assertEqual(exchange.blocks, (2, 1))

    def test_plain_exchanges(self):
        self.assertEqual([Exchange.plain(many).blocks for many in range(4)], [(), (1,), (1, 2), (1, 2, 3)])
        self.assertEqual(Exchange.plain(12).blocks, tuple(range(1, 13)))

    def test_equality(self):
        self.assertIs(Exchange([2, -1]) == Exchange((2, -1)), True)
        self.assertIs(Exchange([2, -1]) == Exchange((2, 1)), False)
        self.assertIs(Exchange([1]) == Exchange((1, 2)), False)
        self.assertIs(Exchange(()) == Exchange.plain(0), True)
        for other in [(2, -1), [2, -1], "2", 0, None, ()]:
            self.assertIs(Exchange([2, -1]) == other, False)
            self.assertIs(Exchange([2, -1]) != other, True)


class Rearranging(unittest.TestCase):

    def test_small_exchanges(self):
        self.assertEqual(Exchange((2, -1)).rearranged(["ab", "c"]), ["c", "ba"])
        self.assertEqual(Exchange((2, -1))(("ab", "c")), "cba")
        self.assertEqual(Exchange((-3, 1, -2)).rearranged(("ab", "cd", "ef")), ["fe", "ab", "dc"])
        self.assertEqual(Exchange((-3, 1, -2))(["ab", "cd", ""]), "abdc")
        self.assertEqual(Exchange(()).rearranged([]), [])
        self.assertEqual(Exchange(())(()), "")

    def test_too_few_and_too_many_texts(self):
        for exchange, texts in [(Exchange((2, -1)), ["a"]), (Exchange((2, -1)), ["a", "b", "c"]), (Exchange(()), ["a"]),
                                (Exchange([1]), []), (Exchange.plain(12), [""] * 11)]:
            with self.assertRaises(BadExchange):
                exchange.rearranged(texts)
            with self.assertRaises(BadExchange):
                exchange(texts)

    def test_arguments_and_answers_are_free_of_each_other(self):
        exchange, texts = Exchange((2, 1)), ["a", "b"]
        exchange.rearranged(texts).clear()
        exchange(texts)
        self.assertEqual((texts, exchange.rearranged(texts)), (["a", "b"], ["b", "a"]))

    def test_all_small_exchanges(self):
        for many in range(4):
            for exchange in all_exchanges(many):
                found = exchange.rearranged(TEXTS[:many])
                self.assertEqual(found, plainly_rearranged(exchange, TEXTS))
                self.assertEqual(exchange(TEXTS[:many]), "".join(found))


class Products(unittest.TestCase):

    def test_small_products(self):
        self.assertEqual((Exchange((2, -1)) * Exchange((-1, 2))).blocks, (-2, -1))
        self.assertEqual((Exchange((-1, 2)) * Exchange((2, -1))).blocks, (2, 1))
        self.assertEqual((Exchange((2, 3, 1)) * Exchange((3, 2, 1))).blocks, (1, 3, 2))

    def test_back_and_negative(self):
        self.assertEqual((~Exchange((2, -1))).blocks, (-2, 1))
        self.assertEqual((~Exchange((2, 3, 1))).blocks, (3, 1, 2))
        self.assertEqual((-Exchange((2, 3, -1))).blocks, (1, -3, -2))
        self.assertEqual(((~Exchange(())).blocks, (-Exchange(())).blocks), ((), ()))

    def test_different_sizes(self):
        for first, second in [((1,), (1, 2)), ((2, 1), ()), ((), (1,))]:
            with self.assertRaises(BadExchange):
                Exchange(first) * Exchange(second)

    def test_a_product_is_the_first_one_followed_by_the_second_one(self):
        for many in range(4):
            for first, second in itertools.product(all_exchanges(many), repeat=2):
                found = (first * second).rearranged(TEXTS[:many])
                self.assertEqual(found, second.rearranged(first.rearranged(TEXTS[:many])))

    def test_the_way_back(self):
        for many in range(4):
            plain = Exchange.plain(many)
            for exchange in all_exchanges(many):
                self.assertEqual((exchange * ~exchange, ~exchange * exchange, ~~exchange), (plain, plain, exchange))
                self.assertEqual((exchange * plain, plain * exchange), (exchange, exchange))
                self.assertEqual((~exchange).rearranged(exchange.rearranged(TEXTS[:many])), TEXTS[:many])

    def test_the_negative(self):
        for many in range(4):
            for exchange in all_exchanges(many):
                self.assertEqual((-exchange)(TEXTS[:many]), exchange(TEXTS[:many])[::-1])
                self.assertEqual(-(-exchange), exchange)

    def test_nothing_is_changed(self):
        first, second = Exchange((2, -1)), Exchange((-1, 2))
        (first * second, ~first, -second, first.is_lean())
        self.assertEqual((first.blocks, second.blocks), ((2, -1), (-1, 2)))


class LeanExchanges(unittest.TestCase):

    def test_lean(self):
        for blocks in [(), (1,), (-1,), (2, 1), (-1, -2), (1, -2), (-1, 2), (3, 2, 1), (2, 1, 3), (1, 3, 2), (-2, 1), (1, -3, 2)]:
            self.assertIs(Exchange(blocks).is_lean(), True, blocks)

    def test_not_lean(self):
        for blocks in [(1, 2), (-2, -1), (3, 1, 2), (2, 3, 1), (1, -3, -2), (-3, -2, 1), (4, 1, -3, -2)]:
            self.assertIs(Exchange(blocks).is_lean(), False, blocks)
        self.assertIs(Exchange.plain(12).is_lean(), False)

    def test_an_exchange_that_is_not_lean_has_two_pieces_that_stay_together(self):
        for exchange in all_exchanges(3):
            together = False
            for one, other in zip(exchange.blocks, exchange.blocks[1:]):
                together = together or other - one == 1
            self.assertIs(exchange.is_lean(), not together)
        for text in texts_up_to("ab", 3):
            self.assertEqual(Exchange((2, 3, 1))(["b", text, "a"]), Exchange((2, 1))(["b", text + "a"]))


if __name__ == "__main__":
    unittest.main()
