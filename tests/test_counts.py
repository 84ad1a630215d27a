import subprocess
import sys
import unittest
from math import comb, gcd
from pathlib import Path

from helper import (RINGS_MANY, SETTINGS_MANY, all_marks, all_settings, one_turn, refused,
                    rings_by_turns, round_settings, stair_and_rest, way_and_ring)
from pilewheel.counts import drawn_in, rings_many, rings_of, settings_of
from pilewheel.errors import NoNumber
from pilewheel.rings import marks_of, ring_of

TOP = Path(__file__).resolve().parent.parent
FAR_OUT = [0, -1, -2, -18, -36, -2000, -(10 ** 29), 1 - 10 ** 30, 2001, 2002, 10 ** 6, 10 ** 29, 10 ** 30 - 1]


def rings_many_by_divisors(coins):
    """By Euler's function of the common divisors of stair and rest, another way than the program's."""
    stair, rest = stair_and_rest(coins)
    told = 0
    for divisor in range(1, stair + 1):
        if stair % divisor == 0 and rest % divisor == 0:
            totient = sum(1 for one in range(1, divisor + 1) if gcd(one, divisor) == 1)
            told += totient * comb(stair // divisor, rest // divisor)
    assert told % stair == 0
    return told // stair


class SettingsOfTest(unittest.TestCase):
    def test_written_settings(self):
        self.assertEqual(settings_of(1), [[1]])
        self.assertEqual(settings_of(2), [[2], [1, 1]])
        self.assertEqual(settings_of(3), [[3], [2, 1], [1, 1, 1]])
        self.assertEqual(settings_of(4), [[4], [3, 1], [2, 2], [2, 1, 1], [1, 1, 1, 1]])
        self.assertEqual(settings_of(6), [[6], [5, 1], [4, 2], [4, 1, 1], [3, 3], [3, 2, 1], [3, 1, 1, 1],
                                          [2, 2, 2], [2, 2, 1, 1], [2, 1, 1, 1, 1], [1] * 6])

    def test_all_of_them_from_the_greatest_down(self):
        for coins in range(1, 19):
            told = settings_of(coins)
            self.assertEqual(told, all_settings(coins))
            self.assertEqual(told, sorted(told, reverse=True))

    def test_how_many(self):
        self.assertEqual([len(settings_of(coins)) for coins in range(1, 19)], SETTINGS_MANY)

    def test_out_of_bounds(self):
        for coins in FAR_OUT + [19, 20, 36, 37, 100, 2000]:
            refused(self, NoNumber, settings_of, coins)


class RingsOfTest(unittest.TestCase):
    def test_written_rings(self):
        self.assertEqual(rings_of(1), [[[1]]])
        self.assertEqual(rings_of(2), [[[2], [1, 1]]])
        self.assertEqual(rings_of(3), [[[2, 1]]])
        self.assertEqual(rings_of(4), [[[3, 1], [2, 2], [2, 1, 1]]])
        # Marks 1 1 0 0 ahead of 1 0 1 0, whose ring has two settings alone.
        self.assertEqual(rings_of(8), [[[4, 3, 1], [3, 3, 2], [3, 2, 2, 1], [4, 2, 1, 1]],
                                       [[4, 2, 2], [3, 3, 1, 1]]])
        self.assertEqual(rings_of(36), [[[8, 7, 6, 5, 4, 3, 2, 1]]])

    def test_all_of_them_by_walking(self):
        for coins in range(1, 37):
            self.assertEqual(rings_of(coins), rings_by_turns(coins), coins)

    def test_each_round_setting_is_on_one_ring(self):
        for coins in range(1, 37):
            told = [piles for ring in rings_of(coins) for piles in ring]
            self.assertEqual(sorted(told), sorted(round_settings(coins)), coins)

    def test_in_the_order_of_turns(self):
        for coins in range(1, 37):
            for ring in rings_of(coins):
                self.assertEqual([one_turn(piles) for piles in ring], ring[1:] + ring[:1])
                self.assertEqual(ring_of(ring[0]), ring)

    def test_the_greatest_marks_begin_each_ring_and_go_down_from_ring_to_ring(self):
        for coins in range(1, 37):
            rings = rings_of(coins)
            for ring in rings:
                self.assertEqual(marks_of(ring[0]), max(marks_of(piles) for piles in ring))
            firsts = [marks_of(ring[0]) for ring in rings]
            self.assertEqual(firsts, sorted(firsts, reverse=True))
            self.assertEqual(firsts[0], max(all_marks(coins)))

    def test_out_of_bounds(self):
        for coins in FAR_OUT + [37, 38, 100, 2000]:
            refused(self, NoNumber, rings_of, coins)


class RingsManyTest(unittest.TestCase):
    @classmethod
    def setUpClass(cls):
        # In a process of its own and ahead of the rest: a count that tells all rings fails here and never hangs.
        asked = "from pilewheel.counts import rings_many; rings_many(1984); rings_many(2000)"
        subprocess.run([sys.executable, "-c", asked], cwd=TOP, check=True, timeout=20)

    def test_written_numbers(self):
        self.assertEqual([rings_many(coins) for coins in range(1, 37)], RINGS_MANY)

    def test_as_many_as_are_told(self):
        for coins in range(1, 37):
            self.assertEqual(rings_many(coins), len(rings_of(coins)), coins)

    def test_each_number_of_coins_to_the_bound(self):
        for coins in range(1, 2001):
            self.assertEqual(rings_many(coins), rings_many_by_divisors(coins), coins)

    def test_stairs_have_one_ring(self):
        for stair in range(1, 63):
            self.assertEqual(rings_many(stair * (stair + 1) // 2), 1)
            self.assertEqual(rings_many(stair * (stair + 1) // 2 + 1), 1)

    def test_the_most_coins(self):
        self.assertEqual(rings_many(1984), 14544636039226909)
        self.assertEqual(rings_many(2000), 5815796869995)

    def test_out_of_bounds(self):
        for coins in FAR_OUT:
            refused(self, NoNumber, rings_many, coins)


def drawn_by_turns(coins):
    reached = [way_and_ring(piles)[1][0] for piles in all_settings(coins)]
    return [sum(1 for first in reached if first in ring) for ring in rings_by_turns(coins)]


class DrawnInTest(unittest.TestCase):
    def test_written_numbers(self):
        self.assertEqual(drawn_in(1), [1])
        self.assertEqual(drawn_in(2), [2])
        self.assertEqual(drawn_in(3), [3])
        self.assertEqual(drawn_in(4), [5])
        self.assertEqual(drawn_in(8), [15, 7])
        self.assertEqual(drawn_in(18), [214, 65, 80, 26])

    def test_walking_from_each_setting(self):
        for coins in range(1, 19):
            self.assertEqual(drawn_in(coins), drawn_by_turns(coins), coins)

    def test_together_they_are_all_settings(self):
        self.assertEqual([sum(drawn_in(coins)) for coins in range(1, 19)], SETTINGS_MANY)

    def test_one_for_each_ring_its_own_settings_among_them(self):
        for coins in range(1, 19):
            rings = rings_of(coins)
            drawn = drawn_in(coins)
            self.assertEqual(len(drawn), len(rings))
            for ring, many in zip(rings, drawn):
                self.assertGreaterEqual(many, len(ring))

    def test_out_of_bounds(self):
        for coins in FAR_OUT + [19, 20, 36, 37, 2000]:
            refused(self, NoNumber, drawn_in, coins)


class InterfaceTest(unittest.TestCase):
    def test_names_of_arguments(self):
        self.assertEqual(settings_of(coins=2), [[2], [1, 1]])
        self.assertEqual(rings_of(coins=2), [[[2], [1, 1]]])
        self.assertEqual(rings_many(coins=2), 1)
        self.assertEqual(drawn_in(coins=2), [2])

    def test_kinds(self):
        for coins in [1, 2, 8, 18]:
            self.assertIs(type(rings_many(coins)), int)
            for told in [settings_of(coins), rings_of(coins), drawn_in(coins)]:
                self.assertIs(type(told), list)
            self.assertEqual({type(many) for many in drawn_in(coins)}, {int})
            self.assertEqual({type(ring) for ring in rings_of(coins)}, {list})
            for piles in settings_of(coins) + [one for ring in rings_of(coins) for one in ring]:
                self.assertIs(type(piles), list)
                self.assertEqual({type(pile) for pile in piles}, {int})


if __name__ == "__main__":
    unittest.main()
