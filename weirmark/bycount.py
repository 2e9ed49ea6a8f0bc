"""The step ByCount: the sum of each full lot of so many of a key's rows."""

from weirmark.errors import NotLoose
from weirmark.more3 import Flow
from weirmark.more4 import (
    apart_alone, apart_late, first_unlike, keys_in, new_key, tag_ahead, take_backs, unlike_rows, until_changed,
)
from weirmark.rows import END, by_key, changed, in_order
from weirmark.steps import Step


class ByCount(Step):
    """For each full lot of a key's rows the sum of these, under the id (key, number of the lot).

    A head is what is kept of the fixed rows of a key: how many they are, and the part of those that lie in a lot
    that they do not fill.
    """

    def __init__(self, many, total):
        self.many = many
        self.total = total
        self.flow = Flow()
        self.heads = {}

    def put(self, tag, row, side=0):
        keys = keys_in([self.flow.rows.get(tag), row])
        before = self.answers(keys)
        told = None if row is None else (row[0], row[1], self.total.trimmed(None, row[2]))
        self.flow.stand(tag, row, told)
        return changed(before, self.answers(keys))

    def mark(self, at, side=0):
        sure = [entry for entry in self.loose() if entry[1][0] < at]
        for tag, row in self.flow.rise(at):
            self.fix(row)
        if at == END:
            self.heads = {}
        return (self.out_mark(), sure)

    def sides(self):
        return 1

    def out_mark(self):
        return self.flow.reached

    def loose(self):
        return in_order(self.answers(keys_in(list(self.flow.rows.values()))))

    def kept(self):
        heads = [(key,) + self.heads[key] for key in sorted(self.heads)]
        return (self.flow.reached, heads, self.flow.entries())

    def lay(self, kept):
        self.heads = dict([(key, (number, part)) for key, number, part in kept[1]])
        self.flow.settle(kept[0], kept[2])

    def anew(self):
        return ByCount(self.many, self.total)

    def twin(self):
        twin = self.anew()
        twin.lay(self.kept())
        return twin

    def shaking(self, tag):
        if tag not in dict(self.loose()):
            raise NotLoose()
        # The fixed rows alone do not fill the lot.
        tags = [one for one, row in reversed(in_order(self.flow.rows)) if row[1] == tag[0]]
        return until_changed(self, take_backs(tags), tag)

    def touching(self):
        kept = self.kept()
        if kept[0] == END:
            return None
        return puts(tag_ahead(kept, kept), self.many, (kept[0], new_key(kept), 0))

    def apart(self, other):
        one = self.kept()
        two = other.kept()
        if one[0] != two[0] or one == two:
            return apart_late(one, two)
        trials = self.trials_of_heads(one, two) if one[1] != two[1] else self.trials_of_lots(one, two)
        return apart_alone(self, other, trials)

    def fix(self, row):
        """The row is one more of the fixed rows."""
        head = self.heads.get(row[1], (0, None))
        number = head[0] + 1
        # How many rows there are tells the part of a count, and the last row of a lot that is not full is to come.
        is_told = number % self.many == 0 or self.total.word() in ("count", "last")
        self.heads[row[1]] = (number, None if is_told else self.total.behind(head[1], row[2]))

    def answers(self, keys):
        """The answer's rows of the keys, a standing, that are not sure."""
        rows = by_key(self.flow.rows)
        found = []
        for key in keys:
            found.extend(self.lots_of(key, rows.get(key, [])))
        return dict(found)

    def lots_of(self, key, rows):
        """The answer's (id, row) of the lots that the rows, all of the key that are not fixed, fill."""
        head = self.heads.get(key, (0, None))
        held = head[0] % self.many
        values = [None] * held + [row[2] for tag, row in rows]
        found = []
        for place in range(len(values) // self.many):
            first = place * self.many
            lot = values[first:first + self.many]
            part = head[1] if place == 0 else None
            summed = self.total.shown(part, lot if part is None else lot[held:])
            last = rows[first + self.many - held - 1][1]
            found.append(((key, head[0] // self.many + place), (last[0], key, summed)))
        return found

    def trials_of_heads(self, one, other):
        """Lists of deeds, one of which tells two steps apart that keep unlike heads and no rows."""
        ones = dict([(entry[0], entry[1:]) for entry in one[1]])
        others = dict([(entry[0], entry[1:]) for entry in other[1]])
        key = first_unlike(ones, others)
        parts = [heads.get(key, (0, None))[1] for heads in (ones, others)]
        values = [0, self.total.probe(parts[0], parts[1])]
        tag = tag_ahead(one, other)
        return [puts(tag, self.many, (one[0], key, value)) for value in values if value is not None]

    def trials_of_lots(self, one, other):
        """Lists of deeds, one of which tells two steps apart that keep the same but for a row under one id."""
        found = unlike_rows(one, other)
        tag = tag_ahead(one, other)
        parts = [self.total.behind(None, row[2]) for row in found[1]]
        value = self.total.probe(parts[0], parts[-1])
        trials = []
        for row in found[1]:
            # Ever more rows ahead of it make the row the last of its lot, which tells its time, and then the first
            # of the next one, where no fixed rows can hide its value.
            number = self.heads.get(row[1], (0, None))[0]
            ahead = puts(tag, self.many - number % self.many, (one[0], row[1], 0))
            trials.append(ahead + puts(tag - self.many, self.many - 1, (row[0] + 1, row[1], value or 0)))
        return trials


def puts(tag, many, row):
    """So many puts of the row, under the id and those ahead of it."""
    return [("put", tag - place, row, 0) for place in range(many)]
