import unittest
from itertools import product

from helper import (NO_SETTINGS, all_marks, all_settings, many_turns, one_turn, refused,
                    round_settings, setting_from, small_settings, stair_and_rest, way_and_ring)
from pilewheel.errors import NoMarks, NoPiles, NotRound
from pilewheel.rings import is_round, marks_of, ring_of, setting_of, way_of
from pilewheel.settings import turned

NO_MARKS = [
    [],
    [0],
    [0, 0, 0],
    [0] * 14,
    [2],
    [1, 2],
    [2, 0, 1],
    [-1],
    [1, -1],
    [1, 0, -1, 1],
    [10 ** 29],
    [1, 10 ** 30 - 1],
    [1, -(10 ** 29)],
    [1] * 10 + [0] * 4,
    [0] * 4 + [1] * 10,
    [1] * 14,
    [1] * 15,
    [0] * 14 + [1],
    [1] + [0] * 14,
    [0] * 15,
    [1] * 120,
    [0] * 119 + [1],
]


class RoundTest(unittest.TestCase):
    def test_written_round_settings(self):
        for piles, marks in [([1], [1]), ([2], [1, 0]), ([1, 1], [0, 1]), ([2, 1], [1, 1]),
                             ([3, 1], [1, 0, 0]), ([2, 2], [0, 1, 0]), ([2, 1, 1], [0, 0, 1]),
                             ([4, 3, 1, 1], [1, 1, 0, 1])]:
            self.assertIs(is_round(piles), True, piles)
            self.assertEqual(marks_of(piles), marks)
            self.assertEqual(setting_of(marks), piles)

    def test_settings_that_are_not_round(self):
        for piles in [[3], [1, 1, 1], [4], [1] * 4, [3, 3], [5, 1], [2, 2, 2], [3, 1, 1, 1],
                      [4, 1, 1], [100], [1] * 100, [50, 50]]:
            self.assertIs(is_round(piles), False, piles)
            refused(self, NotRound, marks_of, piles)

    def test_all_settings_of_few_coins(self):
        for coins in range(1, 13):
            round_ones = round_settings(coins)
            for piles in all_settings(coins):
                self.assertIs(is_round(piles), piles in round_ones, piles)
                if piles not in round_ones:
                    refused(self, NotRound, marks_of, piles)

    def test_the_stair_and_the_rest_of_all_numbers_of_coins(self):
        for coins in range(1, 101):
            stair, rest = stair_and_rest(coins)
            for marks in [[1] * rest + [0] * (stair - rest), [0] * (stair - rest) + [1] * rest]:
                piles = setting_from(marks)
                self.assertEqual(sum(piles), coins)
                self.assertIs(is_round(piles), True, piles)
                self.assertEqual(marks_of(piles), marks)


class MarksTest(unittest.TestCase):
    def test_to_a_setting_and_back(self):
        for coins in range(1, 37):
            for marks in all_marks(coins):
                piles = setting_from(marks)
                self.assertEqual(setting_of(marks), piles)
                self.assertEqual(marks_of(piles), marks)

    def test_each_list_of_few_noughts_and_ones(self):
        for many in range(1, 9):
            for signs in product((0, 1), repeat=many):
                if 1 in signs:
                    self.assertEqual(setting_of(list(signs)), setting_from(signs))
                else:
                    refused(self, NoMarks, setting_of, list(signs))

    def test_the_most_marks_and_coins(self):
        self.assertEqual(setting_of([1] * 13), list(range(13, 0, -1)))
        self.assertEqual(setting_of([1] + [0] * 13), [14] + list(range(12, 0, -1)))
        for marks in [[1] * 9 + [0] * 5, [0] * 5 + [1] * 9]:
            self.assertEqual(setting_of(marks), setting_from(marks))
            self.assertEqual(sum(setting_of(marks)), 100)
            self.assertEqual(marks_of(setting_of(marks)), marks)

    def test_other_lists(self):
        for marks in NO_MARKS:
            refused(self, NoMarks, setting_of, marks)

    def test_a_turn_puts_the_last_mark_ahead(self):
        for coins in list(range(1, 29)) + [55, 66]:
            for marks in all_marks(coins):
                told = turned(setting_of(marks))
                self.assertIs(is_round(told), True, marks)
                self.assertEqual(marks_of(told), marks[-1:] + marks[:-1])


class WayAndRingTest(unittest.TestCase):
    def test_written_ways_and_rings(self):
        four = [[3, 1], [2, 2], [2, 1, 1]]
        self.assertEqual((way_of([4]), ring_of([4])), (1, four))
        self.assertEqual((way_of([1] * 4), ring_of([1] * 4)), (2, four))
        self.assertEqual((way_of([2, 2]), ring_of([2, 2])), (0, four[1:] + four[:1]))
        self.assertEqual((way_of([1, 1, 1]), ring_of([1, 1, 1])), (2, [[2, 1]]))

    def test_all_settings_of_few_coins_turn_by_turn(self):
        for piles in small_settings(13):
            self.assertEqual((way_of(piles), ring_of(piles)), way_and_ring(piles), piles)

    def test_many_coins_turn_by_turn(self):
        for piles in [[100], [1] * 100, [99, 1], [91], [92], [1] * 79, [50, 50], [20] * 5]:
            self.assertEqual((way_of(piles), ring_of(piles)), way_and_ring(piles), piles)

    def test_a_round_setting_has_no_way_and_begins_its_ring(self):
        for coins in range(1, 29):
            for piles in round_settings(coins):
                self.assertEqual(way_of(piles), 0)
                self.assertEqual(ring_of(piles)[0], piles)

    def test_a_ring_holds_each_setting_once_and_closes(self):
        # 8 coins: marks that come again after 2 of 4 turns, beside a ring of 4.
        self.assertEqual(ring_of([4, 2, 2]), [[4, 2, 2], [3, 3, 1, 1]])
        self.assertEqual(len(ring_of([4, 3, 1])), 4)
        for piles in small_settings(12):
            ring = ring_of(piles)
            self.assertEqual(len({tuple(one) for one in ring}), len(ring), piles)
            self.assertEqual(one_turn(ring[-1]), ring[0])
            self.assertEqual(ring[0], many_turns(piles, way_of(piles)))

    def test_settings_that_are_not_round_never_come_again(self):
        for piles in small_settings(11):
            if not is_round(piles):
                walked = one_turn(piles)
                for _ in range(60):
                    self.assertNotEqual(walked, piles)
                    walked = one_turn(walked)

    def test_stairs(self):
        for k in range(1, 7):
            stairs = list(range(k, 0, -1))
            for piles in all_settings(k * (k + 1) // 2):
                self.assertEqual(ring_of(piles), [stairs], piles)
                self.assertIs(is_round(piles), piles == stairs)
                self.assertLessEqual(way_of(piles), k * (k - 1), piles)


class NoPilesTest(unittest.TestCase):
    def test_each_function_that_is_handed_a_setting(self):
        for piles in NO_SETTINGS:
            for call in [is_round, marks_of, way_of, ring_of]:
                refused(self, NoPiles, call, piles)


class InterfaceTest(unittest.TestCase):
    def test_names_of_arguments(self):
        self.assertIs(is_round(piles=[2, 1]), True)
        self.assertEqual(marks_of(piles=[2, 1]), [1, 1])
        self.assertEqual(setting_of(marks=[1, 1]), [2, 1])
        self.assertEqual(way_of(piles=[2, 1]), 0)
        self.assertEqual(ring_of(piles=[2, 1]), [[2, 1]])

    def test_kinds(self):
        for piles in all_settings(7):
            self.assertIs(type(way_of(piles)), int)
            self.assertIs(type(ring_of(piles)), list)
            for one in ring_of(piles):
                for told in [one, marks_of(one), setting_of(marks_of(one))]:
                    self.assertIs(type(told), list)
                    self.assertEqual({type(number) for number in told}, {int})


if __name__ == "__main__":
    unittest.main()
