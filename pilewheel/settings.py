"""Settings: piles of coins in order, their weight, and what turns make of them."""

from pilewheel.errors import NoNumber, NoPiles

MOST_COINS = 100


def is_setting(piles):
    if piles != sorted(piles, reverse=True):
        return False
    # The sum goes first: it turns away the empty list, which has no least pile.
    return 1 <= sum(piles) <= MOST_COINS and min(piles) >= 1


def check_setting(piles):
    if not is_setting(piles):
        raise NoPiles("these piles are no setting")


def weight_of(piles):
    check_setting(piles)
    return sum([pile_weight(pile, ahead) for ahead, pile in enumerate(piles)])


def pile_weight(pile, ahead):
    # The coins of a pile have 0, 1, .. pile - 1 coins below them.
    return pile * (pile - 1) // 2 + pile * ahead


def turned(piles):
    check_setting(piles)
    left = [pile - 1 for pile in piles if pile > 1]
    return sorted(left + [len(piles)], reverse=True)


def after(piles, turns):
    check_setting(piles)
    check_turns(turns)
    trail = trail_of(piles)
    if turns < len(trail):
        return trail[turns]
    # Behind its end the trail goes on at a setting of its own, so whole rounds can be left out.
    start = trail.index(turned(trail[-1]))
    return trail[start + (turns - start) % (len(trail) - start)]


def check_turns(turns):
    if turns < 0 or turns > 10 ** 29:
        raise NoNumber("the turns are out of bounds")


def trail_of(piles):
    seen = {}
    trail = []
    setting = list(piles)
    while tuple(setting) not in seen:
        seen[tuple(setting)] = True
        trail.append(setting)
        setting = turned(setting)
    return trail
