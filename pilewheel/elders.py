"""Elders: the settings of which a setting comes by one turn."""

from pilewheel.settings import check_setting


def elders_of(piles):
    check_setting(piles)
    # Each elder made another one of the piles as its new pile; piles of one height make the same elder.
    return sorted([elder_by(piles, pile) for pile in sorted(set(piles)) if pile >= len(piles) - 1])


def elder_by(piles, new_pile):
    others = list(piles)
    others.remove(new_pile)
    # A coin of the new pile that belongs on none of the others was a pile by itself.
    return [pile + 1 for pile in others] + [1] * (new_pile - len(others))
