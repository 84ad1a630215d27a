"""Pilewheel: piles of coins, one taken from each for a new pile."""
