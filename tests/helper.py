"""What several tests use, written from the document's words and without the program."""

from itertools import product

MOST_TURNS = 10 ** 29

# How many settings there are of 1 to 18 coins, and how many rings of 1 to 36.
SETTINGS_MANY = [1, 2, 3, 5, 7, 11, 15, 22, 30, 42, 56, 77, 101, 135, 176, 231, 297, 385]
RINGS_MANY = [1, 1, 1, 1, 1, 1, 1, 2, 1, 1, 1, 2, 2, 1, 1, 1, 3, 4, 3, 1, 1,
              1, 3, 5, 5, 3, 1, 1, 1, 4, 7, 10, 7, 4, 1, 1]

NO_SETTINGS = [
    [],
    [0],
    [-1],
    [3, 0],
    [3, 1, -1],
    [5, 0, 1],
    [101],
    [51, 50],
    [1] * 101,
    [1] * 120,
    [1] * 100 + [0] * 20,
    [1] + [0] * 119,
    [10 ** 29],
    [10 ** 30 - 1, 1],
    [-(10 ** 29)],
    [10 ** 29, 1 - 10 ** 29],
    [10 ** 29, 5, 1 - 10 ** 29],
    [1, 2],
    [3, 1, 2],
    [2, 3, 1],
    [1, 1, 1, 2],
    [1, 99],
]


def all_settings(coins, most=None):
    if coins == 0:
        return [[]]
    top = coins if most is None else min(coins, most)
    return [[pile] + rest
            for pile in range(top, 0, -1)
            for rest in all_settings(coins - pile, pile)]


def small_settings(most_coins):
    return [piles for coins in range(1, most_coins + 1) for piles in all_settings(coins)]


def one_turn(piles):
    new_pile = 0
    old_piles = []
    for pile in piles:
        new_pile += 1
        if pile - 1 != 0:
            old_piles.append(pile - 1)
    return sorted(old_piles + [new_pile])[::-1]


def many_turns(piles, turns):
    for _ in range(turns):
        piles = one_turn(piles)
    return piles


def stair_and_rest(coins):
    stair = min(k for k in range(1, coins + 1) if k * (k + 1) // 2 >= coins)
    return stair, coins - stair * (stair - 1) // 2


def all_marks(coins):
    stair, rest = stair_and_rest(coins)
    return [list(marks) for marks in product((0, 1), repeat=stair) if sum(marks) == rest]


def setting_from(marks):
    k = len(marks)
    piles = []
    for i in range(k):
        if k - 1 - i + marks[i] != 0:
            piles.append(k - 1 - i + marks[i])
    return piles


def round_settings(coins):
    return [setting_from(marks) for marks in all_marks(coins)]


def way_and_ring(piles):
    """Walk turn by turn to the first round setting, and once round from there."""
    round_ones = round_settings(sum(piles))
    way = 0
    while piles not in round_ones:
        piles = one_turn(piles)
        way += 1
    ring = [piles]
    while one_turn(ring[-1]) != piles:
        ring.append(one_turn(ring[-1]))
    return way, ring


def elders_by_turns(coins):
    """Each setting of these coins with its elders, found by turning all of them."""
    elders = {tuple(piles): [] for piles in all_settings(coins)}
    for piles in all_settings(coins):
        elders[tuple(one_turn(piles))].append(piles)
    return {piles: sorted(found) for piles, found in elders.items()}


def rings_by_turns(coins):
    """The rings of these coins in the document's order, found by walking from each marks."""
    rings = []
    for marks in sorted(all_marks(coins), reverse=True):
        # Greatest marks first: so a ring is met at its greatest ones, and then passed over.
        piles = setting_from(marks)
        if not any(piles in ring for ring in rings):
            rings.append(way_and_ring(piles)[1])
    return rings


def refused(case, error, call, *handed):
    """Assert that the call is refused with just this class, not one under it."""
    with case.assertRaises(error) as caught:
        call(*handed)
    case.assertIs(type(caught.exception), error)
