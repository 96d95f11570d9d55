"""Fewest strikings that make a row go (point 49)."""

from whence.cuts import fewest
from whence.whys import whys


def strikings(question, store, row, most, kept):
    return fewest(whys(question, store, row), most, kept)
