"""Notes: settings written as texts, and read from them."""

from pilewheel.errors import NoNote
from pilewheel.settings import check_setting, is_setting

FIGURES = "0123456789"
MOST_FIGURES = 3


def shown(piles):
    check_setting(piles)
    return " ".join([str(pile) for pile in piles])


def read(text):
    words = text.split(" ")
    if not all([is_pile(word) for word in words]):
        raise NoNote("this text writes no setting")
    piles = [int(word) for word in words]
    if not is_setting(piles):
        raise NoNote("this text writes no setting")
    return piles


def is_pile(word):
    # No pile of a setting has more figures, and Python's int takes only so many.
    if len(word) < 1 or len(word) > MOST_FIGURES:
        return False
    return word[0] != "0" and all([sign in FIGURES for sign in word])
