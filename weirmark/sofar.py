"""The step SoFar: under each row's id the sum of the rows of its key up to it."""

from weirmark.more3 import Flow
from weirmark.more4 import apart_alone, apart_late, first_unlike, keys_in, new_key, put_ahead, tag_ahead, trials_of_rows
from weirmark.rows import END, by_key, changed, in_order
from weirmark.steps import Step


class SoFar(Step):
    """Each row again, with the sum of the rows of its key up to it, in true order."""

    def __init__(self, total):
        self.total = total
        self.flow = Flow()
        self.parts = {}

    def put(self, tag, row, side=0):
        keys = keys_in([self.flow.rows.get(tag), row])
        before = self.answers(keys)
        self.flow.stand(tag, row, None if row is None else self.trim(row))
        return changed(before, self.answers(keys))

    def mark(self, at, side=0):
        sure = [entry for entry in self.loose() if entry[1][0] < at]
        for tag, row in self.flow.rise(at):
            self.fix(row)
        if at == END:
            self.parts = {}
        self.flow.recast(dict([(tag, self.trim(row)) for tag, row in self.flow.rows.items()]))
        return (self.out_mark(), sure)

    def sides(self):
        return 1

    def out_mark(self):
        return self.flow.reached

    def loose(self):
        return in_order(self.answers(keys_in(list(self.flow.rows.values()))))

    def kept(self):
        return (self.flow.reached, [(key, self.parts[key]) for key in sorted(self.parts)], self.flow.entries())

    def lay(self, kept):
        self.parts = dict(kept[1])
        self.flow.settle(kept[0], kept[2])

    def anew(self):
        return SoFar(self.total)

    def twin(self):
        twin = self.anew()
        twin.lay(self.kept())
        return twin

    def shaking(self, tag):
        return [self.flow.take_back(tag, 0)]

    def touching(self):
        kept = self.kept()
        return None if kept[0] == END else [put_ahead(kept, (kept[0], new_key(kept), 0))]

    def apart(self, other):
        one = self.kept()
        two = other.kept()
        if one[0] != two[0] or one == two:
            return apart_late(one, two)
        trials = self.trials_of_parts(one, two) if one[1] != two[1] else trials_of_rows(one, two)
        return apart_alone(self, other, trials)

    def trim(self, row):
        """The row as it is kept."""
        return (row[0], row[1], self.total.trimmed(self.parts.get(row[1]), row[2]))

    def fix(self, row):
        """The row is one more of the fixed rows."""
        part = self.total.behind(self.parts.get(row[1]), row[2])
        if self.total.probe(part, None) is None:
            # Nothing that comes behind the part tells it from none: any last value, a total of 0.
            self.parts.pop(row[1], None)
        else:
            self.parts[row[1]] = part

    def answers(self, keys):
        """The answer's rows of the keys, a standing, that are not sure."""
        rows = by_key(self.flow.rows)
        answer = {}
        for key in keys:
            part = self.parts.get(key)
            for tag, row in rows.get(key, []):
                part = self.total.behind(part, row[2])
                answer[tag] = (row[0], key, self.total.shown(part, []))
        return answer

    def trials_of_parts(self, one, other):
        """A list of deeds that tells two steps apart that keep unlike parts and no rows."""
        ones = dict(one[1])
        others = dict(other[1])
        key = first_unlike(ones, others)
        value = self.total.probe(ones.get(key), others.get(key))
        return [[("put", tag_ahead(one, other), (one[0], key, value), 0)]]
