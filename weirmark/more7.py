"""What the two steps of rows that meet have in common."""

from weirmark.errors import BackMark, Fixed, Late
from weirmark.ids import id_key, number_ahead
from weirmark.more3 import entry_of, standing_of
from weirmark.rows import laid_on
from weirmark.spans import is_covered


class Bank:
    """A side's mark and the rows that are kept of it, fixed ones among them."""

    def __init__(self):
        self.reached = 0
        self.rows = {}

    def check(self, tag, row):
        """Refuses what can not be put under the id."""
        if row is not None and row[0] < self.reached:
            raise Late()
        if tag in self.rows and self.is_fixed(self.rows[tag]):
            raise Fixed()

    def is_fixed(self, row):
        """Whether a row of this side can no more be changed."""
        return row[0] < self.reached

    def place(self, tag, row):
        """The row is kept under the id, none where it is None."""
        self.rows = laid_on(self.rows, [(tag, None, row)])

    def climb(self, at):
        """The mark is now at."""
        if at < self.reached:
            raise BackMark()
        self.reached = at

    def recast(self, entries):
        """The rows are those of the list of (id, row), whatever was there."""
        self.rows = dict(entries)

    def entries(self):
        """The rows as they are kept."""
        return [entry_of(tag, self.rows[tag]) for tag in sorted(self.rows, key=id_key)]

    def settle(self, at, entries):
        """The mark is at and the rows are those kept, whatever was there."""
        self.reached = at
        self.rows = standing_of(entries)


def apart_marks(one, other, tags):
    """A put that two steps whose marks are unlike answer unlike; tags are the ids they keep, a list for each side."""
    side = 0 if one[0] != other[0] else 1
    # One of the two refuses it as late.
    return [("put", number_ahead(tags[side]), (min(one[side], other[side]), "a", 0), side)]


def spot_apart(ones, others):
    """A (time, key) that just one of two unlike lists of spans (key, first, last) has."""
    for key, first, last in ones + others:
        spans = [[span[1:] for span in several if span[0] == key] for several in (ones, others)]
        # The least number at which two lists of spans differ begins a span of the one or is just behind one's end.
        for at in (first, last + 1):
            if is_covered(spans[0], at) != is_covered(spans[1], at):
                return (at, key)
    return None
