"""Counts: all settings and all rings of a number of coins, and how many there are."""

from pilewheel.errors import NoNumber
from pilewheel.rings import ring_of, setting_of, stair_of

MOST_FOR_SETTINGS = 18
MOST_FOR_RINGS = 36
MOST_FOR_MANY = 2000


def check_coins(coins, most):
    if coins < 1 or coins > most:
        raise NoNumber("the coins are out of bounds")


def settings_of(coins):
    check_coins(coins, MOST_FOR_SETTINGS)
    return piles_down(coins, coins)


def piles_down(coins, most):
    if coins == 0:
        return [[]]
    found = []
    for pile in range(min(coins, most), 0, -1):
        found.extend([[pile] + others for others in piles_down(coins - pile, pile)])
    return found


def rest_of(coins):
    stair = stair_of(coins)
    return coins - stair * (stair - 1) // 2


def rings_of(coins):
    check_coins(coins, MOST_FOR_RINGS)
    every = marks_down(stair_of(coins), rest_of(coins))
    return [ring_of(setting_of(marks)) for marks in every if leads_its_ring(marks)]


def marks_down(many, ones):
    if ones < 0 or ones > many:
        return []
    if many == 0:
        return [[]]
    with_one = [[1] + others for others in marks_down(many - 1, ones - 1)]
    return with_one + [[0] + others for others in marks_down(many - 1, ones)]


def leads_its_ring(marks):
    # Turns only move marks round, so no setting is needed to tell the greatest of a ring.
    return marks == max([marks[cut:] + marks[:cut] for cut in range(len(marks))])


def rings_many(coins):
    check_coins(coins, MOST_FOR_MANY)
    stair = stair_of(coins)
    rest = rest_of(coins)
    # Of the turns from 0 to stair - 1, stair // s bring each setting of a ring of s back to itself:
    # so every ring is counted just stair times, and none has to be told.
    return sum([many_again(stair, rest, turns) for turns in range(stair)]) // stair


def many_again(stair, rest, turns):
    # Marks that come again are one part, told over and over.
    part = greatest_part(stair, turns)
    parts = stair // part
    if rest % parts != 0:
        return 0
    return many_choices(part, rest // parts)


def greatest_part(stair, turns):
    return max([part for part in range(1, stair + 1) if stair % part == 0 and turns % part == 0])


def many_choices(places, ones):
    choices = 1
    for taken in range(ones):
        choices = choices * (places - taken) // (taken + 1)
    return choices


def drawn_in(coins):
    # The bounds are those of settings_of, which refuses what is beyond them.
    reached = [ring_of(piles)[0] for piles in settings_of(coins)]
    return [len([piles for piles in reached if piles in ring]) for ring in rings_of(coins)]
