"""What is handed in isn't changed and isn't kept; what is told is the asker's own."""

import copy
import unittest

from helper import NO_SETTINGS, small_settings
from pilewheel.counts import drawn_in, rings_of, settings_of
from pilewheel.elders import elders_of
from pilewheel.errors import PileError
from pilewheel.notes import read, shown
from pilewheel.rings import is_round, marks_of, ring_of, setting_of, way_of
from pilewheel.settings import after, is_setting, turned, weight_of

PILES = small_settings(7) + [[100], [1] * 100, [13, 12, 11, 10, 9, 8, 7, 6, 5, 4, 3, 2, 1]]
MARKS = [[1], [1, 0], [0, 1], [1, 1, 0], [0, 0, 1, 0], [1] * 13, [0] * 5 + [1] * 9]


def after_none(piles):
    return after(piles, 0)


def after_three(piles):
    return after(piles, 3)


def after_most(piles):
    return after(piles, 10 ** 29)


OF_PILES = [is_setting, weight_of, turned, after_none, after_three, after_most,
            is_round, marks_of, way_of, ring_of, elders_of, shown]
CALLS = [(call, piles) for call in OF_PILES for piles in PILES]
CALLS += [(setting_of, marks) for marks in MARKS]
OF_NO_LIST = [(call, coins) for call in [settings_of, rings_of, drawn_in] for coins in [1, 2, 3, 4, 8, 12, 18]]
OF_NO_LIST += [(rings_of, coins) for coins in [19, 32, 36]]
OF_NO_LIST += [(read, text) for text in ["1", "2 1", "3 2 2", "100", "1 " * 99 + "1"]]


def answer(call, handed):
    try:
        return call(handed)
    except PileError as refusal:
        return type(refusal)


def lists_in(told):
    """Each list of the answer, as often as it stands there."""
    if not isinstance(told, list):
        return []
    return [told] + [inner for part in told for inner in lists_in(part)]


def spoil(told):
    for one in lists_in(told):
        one.append(77)


class OwnListsTest(unittest.TestCase):
    def test_what_is_handed_in_is_not_changed(self):
        wrong = [(call, piles) for call in OF_PILES for piles in NO_SETTINGS]
        wrong += [(setting_of, numbers) for numbers in [[], [0], [2, 1], [1] * 14, [1] * 15]]
        for call, handed in CALLS + wrong:
            given = list(handed)
            answer(call, given)
            self.assertEqual(given, handed, call)

    def test_a_told_list_may_be_changed(self):
        for call, handed in CALLS + OF_NO_LIST:
            given = copy.copy(handed)
            told = answer(call, given)
            kept = copy.deepcopy(told)
            spoil(told)
            self.assertEqual(given, handed, call)
            self.assertEqual(answer(call, given), kept, call)

    def test_a_handed_list_may_be_changed(self):
        for call, handed in CALLS:
            given = list(handed)
            told = answer(call, given)
            kept = copy.deepcopy(told)
            given[0] += 1
            given.append(77)
            self.assertEqual(told, kept, call)
            self.assertEqual(answer(call, list(handed)), kept, call)

    def test_no_list_of_an_answer_is_another_one_or_handed_in(self):
        for call, handed in CALLS + OF_NO_LIST:
            given = copy.copy(handed)
            lists = lists_in(answer(call, given)) + lists_in(given)
            self.assertEqual(len({id(one) for one in lists}), len(lists), call)

    def test_no_list_of_two_answers_is_one(self):
        for call, handed in CALLS + OF_NO_LIST:
            given = copy.copy(handed)
            lists = lists_in(answer(call, given)) + lists_in(answer(call, given))
            self.assertEqual(len({id(one) for one in lists}), len(lists), call)

    def test_no_answer_hangs_on_what_another_one_told(self):
        first = [answer(call, handed) for call, handed in CALLS + OF_NO_LIST]
        kept = copy.deepcopy(first)
        spoil(first)
        self.assertEqual([answer(call, handed) for call, handed in CALLS + OF_NO_LIST], kept)


if __name__ == "__main__":
    unittest.main()
