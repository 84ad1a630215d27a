import unittest

from helper import NO_SETTINGS, elders_by_turns, one_turn, refused, small_settings
from pilewheel.elders import elders_of
from pilewheel.errors import NoPiles
from pilewheel.settings import is_setting

MANY_COINS = [[100], [1] * 100, [99, 1], [50, 50], [10] * 10, [9, 9, 9] + [8] * 7 + [7, 5, 5],
              [14, 12, 11, 10, 9, 8, 7, 7, 6, 5, 4, 3, 2, 2], list(range(13, 0, -1)) + [1] * 9]


class EldersTest(unittest.TestCase):
    def test_the_smallest_settings(self):
        self.assertEqual(elders_of([1]), [[1]])
        self.assertEqual(elders_of([2]), [[1, 1]])
        self.assertEqual(elders_of([1, 1]), [[2]])
        self.assertEqual(elders_of([3]), [[1, 1, 1]])
        self.assertEqual(elders_of([2, 1]), [[2, 1], [3]])

    def test_none(self):
        for piles in [[1, 1, 1], [1] * 4, [2, 1, 1, 1], [2, 2, 2, 2], [8] * 12, [1] * 100]:
            self.assertEqual(elders_of(piles), [], piles)

    def test_one_coin_too_few_and_just_enough(self):
        self.assertEqual(elders_of([2, 1, 1, 1]), [])
        self.assertEqual(elders_of([2, 1, 1]), [[2, 2]])
        self.assertEqual(elders_of([3, 1, 1, 1]), [[2, 2, 2]])
        self.assertEqual(elders_of([48] + [1] * 49), [])
        self.assertEqual(elders_of([50] + [1] * 50), [[2] * 50])

    def test_several_rising(self):
        self.assertEqual(elders_of([3, 2, 1]), [[3, 2, 1], [4, 2]])
        self.assertEqual(elders_of([4, 3, 2]), [[4, 3, 1, 1], [5, 3, 1], [5, 4]])
        self.assertEqual(elders_of([5, 4, 3]), [[5, 4, 1, 1, 1], [6, 4, 1, 1], [6, 5, 1]])
        self.assertEqual(elders_of([9, 2]), [[3] + [1] * 8, [10, 1]])

    def test_piles_of_one_height_make_one_elder(self):
        self.assertEqual(elders_of([2, 2]), [[3, 1]])
        self.assertEqual(elders_of([3, 3, 3]), [[4, 4, 1]])
        self.assertEqual(elders_of([4, 3, 3]), [[4, 4, 1, 1], [5, 4, 1]])

    def test_100_coins(self):
        self.assertEqual(elders_of([100]), [[1] * 100])
        self.assertEqual(elders_of([99, 1]), [[2] + [1] * 98, [100]])
        self.assertEqual(elders_of([50, 50]), [[51] + [1] * 49])

    def test_all_settings_of_few_coins(self):
        for coins in range(1, 16):
            for piles, elders in elders_by_turns(coins).items():
                self.assertEqual(elders_of(list(piles)), elders, piles)

    def test_an_elder_just_where_the_greatest_pile_is_told_to_allow_it(self):
        for piles in small_settings(13) + MANY_COINS:
            self.assertEqual(elders_of(piles) != [], piles[0] >= len(piles) - 1, piles)

    def test_many_coins(self):
        for piles in MANY_COINS:
            elders = elders_of(piles)
            self.assertEqual(elders, sorted(elders))
            self.assertEqual(len({tuple(elder) for elder in elders}), len(elders))
            for elder in elders:
                self.assertIs(is_setting(elder), True, piles)
                self.assertEqual(one_turn(elder), piles)

    def test_among_the_elders_of_what_comes_next(self):
        for piles in small_settings(12) + MANY_COINS:
            self.assertEqual(elders_of(one_turn(piles)).count(piles), 1, piles)

    def test_lists_that_are_no_setting(self):
        for piles in NO_SETTINGS:
            refused(self, NoPiles, elders_of, piles)


class InterfaceTest(unittest.TestCase):
    def test_names_of_arguments(self):
        self.assertEqual(elders_of(piles=[2, 1]), [[2, 1], [3]])

    def test_kinds(self):
        for piles in small_settings(7):
            elders = elders_of(piles)
            self.assertIs(type(elders), list)
            for elder in elders:
                self.assertIs(type(elder), list)
                self.assertEqual({type(pile) for pile in elder}, {int})


if __name__ == "__main__":
    unittest.main()
