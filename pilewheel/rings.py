"""Rings: round settings and their marks, and how every setting comes to a ring."""

from pilewheel.errors import NoMarks, NotRound
from pilewheel.settings import after, check_setting, is_setting, turned


def stair_of(coins):
    stair = 1
    while stair * (stair + 1) // 2 < coins:
        stair += 1
    return stair


def above_stair(piles):
    # Piles beyond the stair come out at 2 or more, missing ones below 0:
    # so these numbers are all noughts and ones just where the setting is round.
    stair = stair_of(sum(piles))
    filled = piles + [0] * (stair - len(piles))
    return [pile - (stair - 1 - place) for place, pile in enumerate(filled)]


def all_marks(numbers):
    return all([number in (0, 1) for number in numbers])


def is_round(piles):
    check_setting(piles)
    return all_marks(above_stair(piles))


def marks_of(piles):
    check_setting(piles)
    marks = above_stair(piles)
    if not all_marks(marks):
        raise NotRound("this setting comes of no marks")
    return marks


def setting_of(marks):
    # No bound on their number is asked here: 15 marks have more than 100 coins.
    if not all_marks(marks) or 1 not in marks or not is_setting(piles_from(marks)):
        raise NoMarks("these numbers are no marks")
    return piles_from(marks)


def piles_from(marks):
    heights = [len(marks) - 1 - place + mark for place, mark in enumerate(marks)]
    return [height for height in heights if height > 0]


def way_of(piles):
    way = 0
    setting = piles
    while not is_round(setting):
        setting = turned(setting)
        way += 1
    return way


def ring_of(piles):
    first = after(piles, way_of(piles))
    ring = [first]
    setting = turned(first)
    while setting != first:
        ring.append(setting)
        setting = turned(setting)
    return ring
