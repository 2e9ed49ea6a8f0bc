"""The step BySilence: the sum of each stretch of a key's rows that no silence parts."""

from weirmark.errors import NotLoose
from weirmark.more3 import Flow
from weirmark.more4 import (
    apart_alone, apart_late, first_unlike, keys_in, new_key, put_ahead, tag_ahead, take_backs, trials_of_rows,
    until_changed,
)
from weirmark.rows import END, by_key, changed, in_order
from weirmark.steps import Step
from weirmark.stills import stretches


class BySilence(Step):
    """For each stretch of a key's rows the sum of these, under the id (key, time of its first row).

    A block is what is kept of the fixed rows of a stretch that can still go on: their first time, their last time
    and their part.
    """

    def __init__(self, gap, total):
        self.gap = gap
        self.total = total
        self.flow = Flow()
        self.blocks = {}

    def put(self, tag, row, side=0):
        keys = keys_in([self.flow.rows.get(tag), row])
        before = self.answers(keys)
        self.flow.stand(tag, row, None if row is None else self.trim(row))
        return changed(before, self.answers(keys))

    def mark(self, at, side=0):
        sure = [entry for entry in self.loose() if entry[1][0] + self.gap < at]
        for tag, row in self.flow.rise(at):
            self.fix(row)
        self.blocks = dict([(key, block) for key, block in self.blocks.items() if block[1] + self.gap >= at])
        self.flow.recast(dict([(tag, self.trim(row)) for tag, row in self.flow.rows.items()]))
        return (self.out_mark(), sure)

    def sides(self):
        return 1

    def out_mark(self):
        return min([self.flow.reached] + [block[1] for block in self.blocks.values()])

    def loose(self):
        keys = keys_in(list(self.flow.rows.values()))
        return in_order(self.answers(keys + [key for key in self.blocks if key not in keys]))

    def kept(self):
        blocks = [(key,) + self.blocks[key] for key in sorted(self.blocks)]
        return (self.flow.reached, blocks, self.flow.entries())

    def lay(self, kept):
        self.blocks = dict([(key, (first, last, part)) for key, first, last, part in kept[1]])
        self.flow.settle(kept[0], kept[2])

    def anew(self):
        return BySilence(self.gap, self.total)

    def twin(self):
        twin = self.anew()
        twin.lay(self.kept())
        return twin

    def shaking(self, tag):
        if tag not in dict(self.loose()):
            raise NotLoose()
        return until_changed(self, self.lonely_put(tag[0]), tag)

    def touching(self):
        out = self.out_mark()
        if out == END:
            return None
        for key, block in self.blocks.items():
            if block[1] == out:
                return self.lonely_put(key)
        kept = self.kept()
        return [put_ahead(kept, (out, new_key(kept), 0))]

    def apart(self, other):
        one = self.kept()
        two = other.kept()
        if one[0] != two[0] or one == two:
            return apart_late(one, two)
        trials = self.trials_of_blocks(one, two) if one[1] != two[1] else trials_of_rows(one, two)
        return apart_alone(self, other, trials)

    def trim(self, row):
        """The row as it is kept: less of it matters where nothing can part it from the block of its key."""
        part = self.blocks[row[1]][2] if self.goes_on(row) else None
        return (row[0], row[1], self.total.trimmed(part, row[2]))

    def goes_on(self, row):
        """Whether there is a block of the row's key and the row's time is at most gap above its last time."""
        return row[1] in self.blocks and row[0] - self.blocks[row[1]][1] <= self.gap

    def fix(self, row):
        """The row is one more of the fixed rows."""
        block = self.blocks[row[1]] if self.goes_on(row) else (row[0], row[0], None)
        self.blocks[row[1]] = (block[0], row[0], self.total.behind(block[2], row[2]))

    def answers(self, keys):
        """The answer's rows of the keys, a standing, that are not sure."""
        rows = by_key(self.flow.rows)
        found = []
        for key in keys:
            for stretch in stretches(self.block_ahead(key) + rows.get(key, []), self.gap):
                found.append(self.summed(key, stretch))
        return dict(found)

    def block_ahead(self, key):
        """The block of the key, where there is one, in a list of (id, row): as a row at its last time without an id."""
        return [(None, (self.blocks[key][1], key, None))] if key in self.blocks else []

    def summed(self, key, stretch):
        """The answer's (id, row) of a stretch, which may begin with the block of its key."""
        first = stretch[0][1][0]
        part = None
        if stretch[0][0] is None:
            first = self.blocks[key][0]
            part = self.blocks[key][2]
        values = [row[2] for tag, row in stretch if tag is not None]
        return ((key, first), (stretch[-1][1][0], key, self.total.shown(part, values)))

    def lonely_put(self, key):
        """Puts that take back all rows of the key, then put one at the mark, where it goes on with the block alone."""
        kept = self.kept()
        tags = [tag for tag, row in self.flow.rows.items() if row[1] == key]
        return take_backs(tags) + [put_ahead(kept, (kept[0], key, 0))]

    def trials_of_blocks(self, one, other):
        """Lists of deeds, one of which tells two steps apart that keep unlike blocks and no rows."""
        ones = dict([(entry[0], entry[1:]) for entry in one[1]])
        others = dict([(entry[0], entry[1:]) for entry in other[1]])
        key = first_unlike(ones, others)
        parts = [blocks.get(key, (None, None, None))[2] for blocks in (ones, others)]
        value = self.total.probe(parts[0], parts[1])
        trials = [[("mark", END, 0)]]
        if value is not None:
            trials.append([("put", tag_ahead(one, other), (one[0], key, value), 0)])
        return trials
