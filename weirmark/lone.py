"""The step Lone: the rows of side 0 that meet none of side 1."""

from weirmark.errors import NotLoose
from weirmark.ids import fresh_key, number_ahead
from weirmark.meets import alone, meet, meets_any
from weirmark.more3 import standing_of, tags_of, unlike_tag
from weirmark.more4 import apart_behind
from weirmark.more7 import Bank, apart_marks, spot_apart
from weirmark.rows import END, changed, in_order
from weirmark.spans import is_covered, spans_from, spans_with
from weirmark.steps import Step


class Lone(Step):
    """The rows of side 0 with no row of side 1 that has their key and a time that is near.

    Of fixed rows of side 1 only the times that they cover are kept, as spans of each key; values of that side never
    matter.
    """

    def __init__(self, within):
        self.within = within
        self.banks = [Bank(), Bank()]
        self.covered = {}

    def put(self, tag, row, side=0):
        bank = self.banks[side]
        bank.check(tag, row)
        kept = self.needed(row, side)
        near = [tag] if side == 0 else self.met_by([bank.rows.get(tag), kept])
        before = self.answers(near)
        bank.place(tag, kept)
        return changed(before, self.answers(near))

    def mark(self, at, side=0):
        before = self.loose()
        self.banks[side].climb(at)
        sure = [entry for entry in before if self.is_sure(entry[1])]
        self.fix_others()
        self.shed()
        return (self.out_mark(), sure)

    def sides(self):
        return 2

    def out_mark(self):
        return min([self.banks[0].reached] + [row[0] for row in self.banks[0].rows.values()])

    def loose(self):
        return in_order(self.answers(list(self.banks[0].rows)))

    def kept(self):
        spans = []
        for key in sorted(self.covered):
            spans.extend([(key, first, last) for first, last in self.covered[key]])
        others = [entry[:3] for entry in self.banks[1].entries()]
        return (self.banks[0].reached, self.banks[1].reached, self.banks[0].entries(), spans, others)

    def lay(self, kept):
        self.banks[0].settle(kept[0], kept[2])
        self.banks[1].settle(kept[1], [(tag, time, key, None) for tag, time, key in kept[4]])
        self.covered = {}
        for key, first, last in kept[3]:
            self.covered[key] = self.spans_of(key) + [(first, last)]

    def anew(self):
        return Lone(self.within)

    def twin(self):
        twin = self.anew()
        twin.lay(self.kept())
        return twin

    def shaking(self, tag):
        if tag not in dict(self.loose()):
            raise NotLoose()
        row = self.banks[0].rows[tag]
        return [self.meeting_put(row) if self.banks[0].is_fixed(row) else ("put", tag, None, 0)]

    def touching(self):
        out = self.out_mark()
        if out == END:
            return None
        if out == self.banks[0].reached:
            return [self.new_put((out, self.new_key(), 0), 0)]
        row = [row for row in self.banks[0].rows.values() if row[0] == out][0]
        hiding = [tag for tag, other in self.banks[1].rows.items() if meet(row, other, self.within)]
        return [("put", tag, None, 1) for tag in hiding] or [self.meeting_put(row)]

    def apart(self, other):
        one = self.kept()
        two = other.kept()
        if one == two:
            return None
        if one[:2] != two[:2]:
            return apart_marks(one, two, [tags_of(one[2] + two[2]), tags_of(one[4] + two[4])])
        # Where nothing else is unlike, one row of side 1 is; without the others it can be looked at alone.
        spared = unlike_other(one, two)[0] if one[2:4] == two[2:4] else None
        tags = dict([(tag, True) for tag in tags_of(one[4] + two[4]) if tag != spared])
        return apart_behind(self, other, [("put", tag, None, 1) for tag in tags], self.trials(one, two))

    def spans_of(self, key):
        """The times from side 0's mark on that fixed rows of side 1 with the key cover."""
        return self.covered.get(key, [])

    def needed(self, row, side):
        """The row as it is kept, where it can be put; None where nothing to come can ask for it, as for no row."""
        if row is None:
            return None
        if side == 0:
            return None if is_covered(self.spans_of(row[1]), row[0]) else row
        return (row[0], row[1], None) if self.can_hide(row) else None

    def can_hide(self, row):
        """Whether the row of side 1 can meet a row that comes to side 0, or meets a kept one."""
        # Fixed rows of side 1 lie ahead of it, so none covers the last time that is near it.
        return self.is_open(row) or meets_any(row, self.banks[0].rows, self.within)

    def is_open(self, row):
        """Whether a row can come to side 0 at the last time that is near this one of side 1."""
        return row[0] + self.within >= self.banks[0].reached

    def is_sure(self, row):
        """Whether nothing can change any more that the row of side 0 is lone."""
        return self.banks[0].is_fixed(row) and not self.can_meet(row)

    def can_meet(self, row):
        """Whether a row that comes to side 1 can meet this one of side 0."""
        return row[0] + self.within >= self.banks[1].reached

    def met_by(self, others):
        """The ids of the rows of side 0 that meet one of the list of rows of side 1; None among them is no row."""
        near = [(place, other) for place, other in enumerate(others) if other is not None]
        return [tag for tag, row in self.banks[0].rows.items() if meets_any(row, dict(near), self.within)]

    def answers(self, tags):
        """The answer's rows, a standing, under these of the ids that are kept."""
        rows = self.banks[0].rows
        near = dict([(tag, rows[tag]) for tag in tags if tag in rows])
        return alone(near, self.banks[1].rows, self.within)

    def fix_others(self):
        """What the rows of side 1 that are fixed now cover goes to the spans; what they meet is lone no more."""
        fixed = [row for row in self.banks[1].rows.values() if self.banks[1].is_fixed(row)]
        for row in fixed:
            self.covered[row[1]] = spans_with(self.spans_of(row[1]), row[0] - self.within, row[0] + self.within)
        for tag in self.met_by(fixed):
            self.banks[0].place(tag, None)

    def shed(self):
        """What nothing to come can ask for is kept no more."""
        one = self.banks[0]
        other = self.banks[1]
        one.recast([(tag, row) for tag, row in one.rows.items() if not self.is_sure(row)])
        covered = [(key, spans_from(spans, one.reached)) for key, spans in self.covered.items()]
        self.covered = dict([(key, spans) for key, spans in covered if spans])
        rows = [(tag, row) for tag, row in other.rows.items() if not other.is_fixed(row)]
        other.recast([(tag, row) for tag, row in rows if self.can_hide(row)])

    def new_put(self, row, side):
        """The put of the row under a new id."""
        return ("put", number_ahead(list(self.banks[side].rows)), row, side)

    def meeting_put(self, row):
        """The put of a new row of side 1 that meets this one of side 0."""
        return self.new_put((max(row[0], self.banks[1].reached), row[1], 0), 1)

    def new_key(self):
        """A key of which the step keeps nothing of side 1."""
        return fresh_key([row[1] for row in self.banks[1].rows.values()] + list(self.covered))

    def trials(self, one, other):
        """Lists of deeds, one of which tells two steps with the same marks apart behind those that take rows back."""
        if one[3] != other[3]:
            spot = spot_apart(one[3], other[3])
            return [[("put", number_ahead(tags_of(one[2] + other[2])), (spot[0], spot[1], 0), 0)]]
        if one[2] != other[2]:
            return [[self.trial_of_rows(one, other)]]
        return self.trials_of_others(one, other)

    def trial_of_rows(self, one, other):
        """The deed that tells two steps apart that keep unlike rows, the same spans, and nothing else of side 1."""
        tag = unlike_tag(one[2], other[2])
        for kept in (one, other):
            row = standing_of(kept[2]).get(tag)
            if row is not None and self.can_meet(row):
                tags = tags_of(one[4] + other[4])
                return ("put", number_ahead(tags), (max(row[0], self.banks[1].reached), row[1], 0), 1)
        return ("put", tag, None, 0)

    def trials_of_others(self, one, other):
        """Lists of deeds, one of which tells two steps apart that keep the same but for a row of side 1."""
        found = unlike_other(one, other)
        times = [row[0] for row in found[1]]
        last = found[1][times.index(max(times))]
        if self.is_open(last):
            # At the last time that is near this one, so one of a lesser time does not hide it.
            return [[("put", number_ahead(tags_of(one[2])), (last[0] + self.within, last[1], 0), 0)]]
        back = ("put", found[0], None, 1)
        # Where their times are unlike, one of the two rows is fixed by it, and the other one is not.
        return [[back], [("mark", min(times) + 1, 1), back]]


def unlike_other(one, other):
    """The first id of which two steps keep unlike rows of side 1, and the list of its one or two rows (time, key)."""
    ones = dict([(entry[0], entry[1:]) for entry in one[4]])
    others = dict([(entry[0], entry[1:]) for entry in other[4]])
    tag = changed(ones, others)[0][0]
    return (tag, [rows[tag] for rows in (ones, others) if tag in rows])
