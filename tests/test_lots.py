"""Point 20: twiceeach.lots."""

import unittest

from tests.samples import Dice
from twiceeach.lots import Lots


class Classes(unittest.TestCase):

    def test_at_first_each_number_is_alone(self):
        lots = Lots(3)
        self.assertEqual(lots.classes(), ((0,), (1,), (2,)))
        self.assertEqual([lots.root(at) for at in range(3)], [0, 1, 2])
        self.assertIs(lots.together(0, 1), False)
        self.assertIs(lots.together(2, 2), True)

    def test_no_numbers(self):
        self.assertEqual(Lots(0).classes(), ())

    def test_gluing(self):
        lots = Lots(6)
        self.assertIsNone(lots.glue(4, 2))
        self.assertIsNone(lots.glue(5, 4))
        self.assertIsNone(lots.glue(0, 3))
        self.assertEqual(lots.classes(), ((0, 3), (1,), (2, 4, 5)))
        self.assertEqual([lots.root(at) for at in range(6)], [0, 1, 2, 0, 2, 2])
        self.assertIs(lots.together(2, 5), True)
        self.assertIs(lots.together(5, 2), True)
        self.assertIs(lots.together(3, 5), False)

    def test_the_root_is_the_least_number_also_of_a_small_class_glued_to_a_large_one(self):
        lots = Lots(6)
        for one, other in [(5, 4), (4, 3), (3, 2), (0, 5)]:
            lots.glue(one, other)
        self.assertEqual([lots.root(at) for at in range(6)], [0, 1, 0, 0, 0, 0])
        self.assertEqual(lots.classes(), ((0, 2, 3, 4, 5), (1,)))

    def test_gluing_again_and_a_number_to_itself(self):
        lots = Lots(3)
        for one, other in [(1, 1), (0, 2), (2, 0), (0, 2)]:
            lots.glue(one, other)
        self.assertEqual(lots.classes(), ((0, 2), (1,)))

    def test_thrown_gluings_against_plain_joining(self):
        dice = Dice(5)
        for _ in range(60):
            many = 1 + dice.below(12)
            lots = Lots(many)
            plain = [{at} for at in range(many)]
            for _ in range(dice.below(2 * many)):
                one, other = dice.below(many), dice.below(many)
                lots.glue(one, other)
                joined = plain[one] | plain[other]
                for at in joined:
                    plain[at] = joined
            expected = sorted({tuple(sorted(lot)) for lot in plain})
            self.assertEqual(lots.classes(), tuple(expected))
            self.assertEqual([lots.root(at) for at in range(many)], [min(lot) for lot in plain])
            for one in range(many):
                for other in range(many):
                    self.assertIs(lots.together(one, other), other in plain[one])

    def test_asking_changes_nothing(self):
        lots = Lots(4)
        lots.glue(3, 1)
        first = lots.classes()
        lots.root(3)
        lots.together(0, 3)
        self.assertEqual(lots.classes(), first)
        lots.glue(0, 3)
        self.assertEqual(first, ((0,), (1, 3), (2,)))
        self.assertEqual(lots.classes(), ((0, 1, 3), (2,)))

    def test_a_long_chain(self):
        lots = Lots(3000)
        for at in range(2999, 0, -1):
            lots.glue(at - 1, at)
        self.assertEqual(lots.root(2999), 0)
        self.assertEqual(lots.classes(), (tuple(range(3000)),))


if __name__ == "__main__":
    unittest.main()
