"""The step ByTime: the sum of each key's rows in windows of one size."""

from weirmark.errors import NotLoose
from weirmark.hops import end_behind, starts_with
from weirmark.more3 import Flow
from weirmark.more4 import (
    apart_alone, apart_late, first_unlike, new_key, put_ahead, tag_ahead, take_backs, trials_of_rows, unlike_rows,
    until_changed, with_value,
)
from weirmark.rows import END, changed, in_order
from weirmark.steps import Step


class ByTime(Step):
    """For each key and window with a row of the key the sum of these rows, under the id (key, start)."""

    def __init__(self, size, hop, total):
        self.size = size
        self.hop = hop
        self.total = total
        self.flow = Flow()
        self.parts = {}

    def put(self, tag, row, side=0):
        spots = self.spots_of(self.flow.rows.get(tag)) + self.spots_of(row)
        before = self.answers(spots)
        self.flow.stand(tag, row, self.weighed(row))
        return changed(before, self.answers(spots))

    def mark(self, at, side=0):
        sure = [entry for entry in self.loose() if entry[1][0] < at]
        for tag, row in self.flow.rise(at):
            for spot in self.spots_of(row):
                self.parts[spot] = self.total.behind(self.parts.get(spot), row[2])
        parts = [(spot, part) for spot, part in self.parts.items() if spot[1] + self.size > at]
        self.parts = dict(parts)
        rows = [(tag, row) for tag, row in self.flow.rows.items() if self.weighed(row) is not None]
        self.flow.recast(dict(rows))
        return (self.out_mark(), sure)

    def sides(self):
        return 1

    def out_mark(self):
        return min(END, end_behind(self.size, self.hop, self.flow.reached) - 1)

    def loose(self):
        spots = list(self.parts)
        for row in self.flow.rows.values():
            spots.extend(self.spots_of(row))
        return in_order(self.answers(spots))

    def kept(self):
        parts = [(key, start, self.parts[(key, start)]) for key, start in sorted(self.parts)]
        return (self.flow.reached, parts, self.flow.entries())

    def lay(self, kept):
        self.parts = dict([((key, start), part) for key, start, part in kept[1]])
        self.flow.settle(kept[0], kept[2])

    def anew(self):
        return ByTime(self.size, self.hop, self.total)

    def twin(self):
        twin = self.anew()
        twin.lay(self.kept())
        return twin

    def shaking(self, tag):
        if tag not in dict(self.loose()):
            raise NotLoose()
        deeds = take_backs([one for one, row in reversed(in_order(self.flow.rows)) if tag in self.spots_of(row)])
        if tag in self.parts:
            deeds.append(put_ahead(self.kept(), self.first_row(tag, stirring(self.total, self.parts[tag]))))
        return until_changed(self, deeds, tag)

    def touching(self):
        out = self.out_mark()
        kept = self.kept()
        spot = (new_key(kept), out + 1 - self.size)
        return None if out == END else [put_ahead(kept, self.first_row(spot, 0))]

    def apart(self, other):
        one = self.kept()
        two = other.kept()
        if one[0] != two[0] or one == two:
            return apart_late(one, two)
        trials = self.trials_of_parts(one, two) if one[1] != two[1] else trials_of_times(one, two)
        return apart_alone(self, other, trials)

    def spots_of(self, row):
        """The list of (key, start) of the windows that have the row, None too."""
        return [] if row is None else [(row[1], start) for start in starts_with(self.size, self.hop, row[0])]

    def weighed(self, row):
        """The row as it is kept; None where it weighs in none of its windows."""
        if not any([self.total.weighs(self.parts.get(spot), row[2]) for spot in self.spots_of(row)]):
            return None
        return (row[0], row[1], self.total.trimmed(None, row[2]))

    def answers(self, spots):
        """The answer's rows, a standing, of those of the windows that are not sure."""
        gathered = dict([(spot, []) for spot in spots])
        keys = dict([(key, True) for key, start in gathered])
        near = [(tag, row) for tag, row in self.flow.rows.items() if row[1] in keys]
        for tag, row in in_order(dict(near)):
            for spot in self.spots_of(row):
                if spot in gathered:
                    gathered[spot].append(row[2])
        answer = {}
        for spot, values in gathered.items():
            part = self.parts.get(spot)
            if part is not None or values:
                answer[spot] = (spot[1] + self.size - 1, spot[0], self.total.shown(part, values))
        return answer

    def first_row(self, spot, value):
        """A row with the value at the first time of the window that a put can still have."""
        return (max(self.flow.reached, spot[1], 0), spot[0], value)

    def trials_of_parts(self, one, other):
        """Lists of deeds, one of which tells two steps apart that keep unlike parts and no rows."""
        ones = dict([((key, start), part) for key, start, part in one[1]])
        others = dict([((key, start), part) for key, start, part in other[1]])
        spot = first_unlike(ones, others)
        trials = [[("mark", END, 0)]]
        value = self.total.probe(ones.get(spot), others.get(spot))
        if value is not None:
            trials.append([("put", tag_ahead(one, other), self.first_row(spot, value), 0)])
        return trials


def stirring(total, part):
    """A value that behind the part gives another sum than the part by itself."""
    now = total.shown(part, [])
    for value in (now - 1, now + 1):
        if total.shown(part, [value]) != now:
            return value
    # So the sum goes by how many unlike values there are, and some value up to that number is new.
    value = 0
    while total.shown(part, [value]) == now:
        value += 1
    return value


def trials_of_times(one, other):
    """Lists of deeds, one of which tells two steps apart that keep the same but for a row under one id."""
    found = unlike_rows(one, other)
    trials = trials_of_rows(one, other)
    for row in found[1]:
        trials.append([("put", tag_ahead(one, other), with_value(row, 1), 0)])
    # Where their times are unlike, one of the two rows is fixed by it, and the other one is not.
    rise = ("mark", min([row[0] for row in found[1]]) + 1, 0)
    trials.append([rise] + take_backs([found[0]]))
    return trials
