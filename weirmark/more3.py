"""What the steps that keep rows have in common."""

from weirmark.errors import BackMark, Late, NotLoose
from weirmark.ids import fresh_key, id_key, number_ahead
from weirmark.rows import END, changed, in_order, laid_on


class Flow:
    """A side's mark, and what is told, or kept, of its rows that are not fixed.

    Nothing is kept of fixed rows, so an id that a fixed row had is as a new one, and no put is refused with Fixed.
    """

    def __init__(self):
        self.reached = 0
        self.rows = {}

    def stand(self, tag, row, told):
        """The row is put under the id and told is what the step tells of it; the changes."""
        if row is not None and row[0] < self.reached:
            raise Late()
        old = self.rows.get(tag)
        self.rows = laid_on(self.rows, [(tag, old, told)])
        return [] if old == told else [(tag, old, told)]

    def rise(self, at):
        """The mark is now at; the list of (id, row), in true order, of the rows that it fixes."""
        if at < self.reached:
            raise BackMark()
        sure = [entry for entry in in_order(self.rows) if entry[1][0] < at]
        self.rows = laid_on(self.rows, [(tag, row, None) for tag, row in sure])
        self.reached = at
        return sure

    def recast(self, rows):
        """The rows are these, whatever was there."""
        self.rows = dict(rows)

    def entries(self):
        """The rows as they are kept."""
        return [entry_of(tag, self.rows[tag]) for tag in sorted(self.rows, key=id_key)]

    def settle(self, at, entries):
        """The mark is at and the rows are those kept, whatever was there."""
        self.reached = at
        self.rows = standing_of(entries)

    def take_back(self, tag, side):
        """The put that takes back the loose row under the id."""
        if tag not in self.rows:
            raise NotLoose()
        return ("put", tag, None, side)


def entry_of(tag, row):
    """The row under the id as it is kept."""
    return (tag, row[0], row[1], row[2])


def standing_of(entries):
    """The standing of rows that were kept."""
    return dict([(tag, (time, key, value)) for tag, time, key, value in entries])


def tags_of(entries):
    """The ids of rows that were kept."""
    return [entry[0] for entry in entries]


def keys_of(entries):
    """The keys of rows that were kept."""
    return [entry[2] for entry in entries]


def unlike_tag(ones, others):
    """The first id under which two lists of kept rows, that are unlike, have not the same."""
    return changed(standing_of(ones), standing_of(others))[0][0]


def new_put(at, value, entries, side):
    """The put of a row at the time with an id and a key that none of the kept rows has."""
    return ("put", number_ahead(tags_of(entries)), (at, fresh_key(keys_of(entries)), value), side)


def touching_rows(kept, value):
    """Puts that change a row at the mark; the step tells of a row with the value."""
    return None if kept[0] == END else [new_put(kept[0], value, kept[1], 0)]


def apart_rows(one, other, value):
    """Deeds that tell two steps that keep (mark, rows) apart; they tell of a row with the value."""
    if one == other:
        return None
    if one[0] != other[0]:
        # One of the two refuses it as late.
        return [new_put(min(one[0], other[0]), value, one[1] + other[1], 0)]
    return [("put", unlike_tag(one[1], other[1]), None, 0)]
