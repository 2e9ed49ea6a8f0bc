"""Sums by their words."""

from weirmark.counts import Count, Last, Total
from weirmark.errors import NoName
from weirmark.extremes import Greatest, Least, Unlike


def sum_of(word):
    """A sum of the class of the word; NoName(word) of any other text."""
    for total in [Count(), Total(), Least(), Greatest(), Last(), Unlike()]:
        if total.word() == word:
            return total
    raise NoName(word)
