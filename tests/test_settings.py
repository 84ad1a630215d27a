import unittest

from helper import (MOST_TURNS, NO_SETTINGS, all_settings, many_turns, one_turn, refused,
                    small_settings, way_and_ring)
from pilewheel.errors import NoNumber, NoPiles
from pilewheel.settings import after, is_setting, turned, weight_of


class IsSettingTest(unittest.TestCase):
    def test_settings(self):
        for piles in [[1], [2], [100], [1] * 100, [50, 50], [99, 1], [3, 3, 3], [5, 3, 3, 1],
                      list(range(13, 0, -1)) + [1] * 9]:
            self.assertIs(is_setting(piles), True, piles)

    def test_all_settings_of_few_coins(self):
        for piles in small_settings(9):
            self.assertIs(is_setting(piles), True, piles)

    def test_other_lists(self):
        for piles in NO_SETTINGS:
            self.assertIs(is_setting(piles), False, piles)

    def test_one_order_of_the_piles_alone(self):
        for piles in small_settings(9):
            if piles != piles[::-1]:
                self.assertIs(is_setting(piles[::-1]), False, piles)


class TurnedTest(unittest.TestCase):
    def test_the_new_pile_first(self):
        self.assertEqual(turned([2, 2, 2]), [3, 1, 1, 1])
        self.assertEqual(turned([3, 3, 2, 1]), [4, 2, 2, 1])

    def test_the_new_pile_last(self):
        self.assertEqual(turned([4]), [3, 1])
        self.assertEqual(turned([100]), [99, 1])
        self.assertEqual(turned([5, 4]), [4, 3, 2])

    def test_the_new_pile_in_between(self):
        self.assertEqual(turned([7, 5, 2]), [6, 4, 3, 1])
        self.assertEqual(turned([9, 4, 1]), [8, 3, 3])

    def test_piles_end(self):
        self.assertEqual(turned([1]), [1])
        self.assertEqual(turned([1, 1, 1]), [3])
        self.assertEqual(turned([1] * 100), [100])
        self.assertEqual(turned([6, 1, 1, 1]), [5, 4])

    def test_all_settings_of_few_coins(self):
        for piles in small_settings(12):
            self.assertEqual(turned(piles), one_turn(piles), piles)

    def test_the_coins_stay_as_many(self):
        for piles in small_settings(12) + [[100], [1] * 100, [50, 50]]:
            told = turned(piles)
            self.assertEqual(sum(told), sum(piles), piles)
            self.assertIs(is_setting(told), True, piles)


def weight_by_coins(piles):
    return sum(below + ahead for ahead in range(len(piles)) for below in range(piles[ahead]))


class WeightTest(unittest.TestCase):
    def test_written_weights(self):
        for piles, weight in [([1], 0), ([2], 1), ([1, 1], 1), ([2, 1], 2), ([3], 3),
                              ([4, 2, 1], 11), ([100], 4950), ([1] * 100, 4950)]:
            self.assertEqual(weight_of(piles), weight, piles)

    def test_coin_by_coin(self):
        for piles in small_settings(11):
            self.assertEqual(weight_of(piles), weight_by_coins(piles), piles)

    def test_a_turn_never_makes_it_greater_and_leaves_it_just_where_told(self):
        for piles in small_settings(12):
            before, behind = weight_of(piles), weight_of(turned(piles))
            self.assertLessEqual(behind, before, piles)
            self.assertEqual(behind == before, len(piles) >= piles[0] - 1, piles)

    def test_along_many_turns_of_many_coins(self):
        for piles in [[100], [1] * 100, [97, 3], [40, 30, 20, 10]]:
            for _ in range(200):
                told = turned(piles)
                self.assertLessEqual(weight_of(told), weight_of(piles), piles)
                self.assertEqual(weight_of(told) == weight_of(piles), len(piles) >= piles[0] - 1)
                piles = told


class AfterTest(unittest.TestCase):
    def test_no_turn(self):
        for piles in small_settings(8) + [[100], [1] * 100]:
            self.assertEqual(after(piles, 0), piles)

    def test_one_turn(self):
        for piles in small_settings(8) + [[100], [1] * 100]:
            self.assertEqual(after(piles, 1), one_turn(piles))

    def test_turns_one_by_one(self):
        for piles in small_settings(8):
            walked = piles
            for turns in range(45):
                self.assertEqual(after(piles, turns), walked, (piles, turns))
                walked = one_turn(walked)

    def test_many_turns_of_100_coins(self):
        for piles in [[100], [1] * 100, [60, 40]]:
            for turns in [2, 50, 99, 100, 171, 300, 1000, 1001]:
                self.assertEqual(after(piles, turns), many_turns(piles, turns), (piles, turns))

    def test_the_most_turns_written_out(self):
        self.assertEqual(after([1], MOST_TURNS), [1])
        self.assertEqual(after([3], MOST_TURNS), [2, 1])
        self.assertEqual(after([2], MOST_TURNS), [2])
        self.assertEqual(after([2], MOST_TURNS - 1), [1, 1])

    def test_the_most_turns(self):
        for piles in small_settings(10) + [[100], [1] * 100, [99], [92], [91], [60, 30]]:
            way, ring = way_and_ring(piles)
            for turns in [MOST_TURNS, MOST_TURNS - 1, MOST_TURNS - 12345, 10 ** 20 + 7]:
                self.assertEqual(after(piles, turns), ring[(turns - way) % len(ring)], (piles, turns))

    def test_turns_out_of_bounds(self):
        for piles in [[1], [4], [2, 1], [100]]:
            for turns in [-1, -2, -MOST_TURNS, MOST_TURNS + 1, 10 ** 30 - 1]:
                refused(self, NoNumber, after, piles, turns)


class NoPilesTest(unittest.TestCase):
    def test_weight_and_turn(self):
        for piles in NO_SETTINGS:
            refused(self, NoPiles, weight_of, piles)
            refused(self, NoPiles, turned, piles)

    def test_after_whatever_the_turns_are(self):
        for piles in NO_SETTINGS:
            for turns in [0, 1, MOST_TURNS, -1, MOST_TURNS + 1]:
                refused(self, NoPiles, after, piles, turns)


class InterfaceTest(unittest.TestCase):
    def test_names_of_arguments(self):
        self.assertIs(is_setting(piles=[2, 1]), True)
        self.assertEqual(weight_of(piles=[2, 1]), 2)
        self.assertEqual(turned(piles=[3]), [2, 1])
        self.assertEqual(after(piles=[3], turns=1), [2, 1])

    def test_kinds(self):
        for piles in all_settings(6):
            self.assertIs(type(weight_of(piles)), int)
            for told in [turned(piles), after(piles, 0), after(piles, 2), after(piles, MOST_TURNS)]:
                self.assertIs(type(told), list)
                self.assertEqual({type(pile) for pile in told}, {int})


if __name__ == "__main__":
    unittest.main()
