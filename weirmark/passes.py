"""Two steps that pass rows on one by one: Pick, by their values, and Turn, with another value."""

from weirmark.more3 import Flow, apart_rows, touching_rows
from weirmark.rows import in_order
from weirmark.steps import Step


class Pick(Step):
    """The rows with values from low to high."""

    def __init__(self, low, high):
        self.low = low
        self.high = high
        self.flow = Flow()

    def put(self, tag, row, side=0):
        picked = row is not None and self.low <= row[2] <= self.high
        return self.flow.stand(tag, row, row if picked else None)

    def mark(self, at, side=0):
        sure = self.flow.rise(at)
        return (self.out_mark(), sure)

    def sides(self):
        return 1

    def out_mark(self):
        return self.flow.reached

    def loose(self):
        return in_order(self.flow.rows)

    def kept(self):
        return (self.flow.reached, self.flow.entries())

    def lay(self, kept):
        self.flow.settle(kept[0], kept[1])

    def anew(self):
        return Pick(self.low, self.high)

    def twin(self):
        twin = self.anew()
        twin.lay(self.kept())
        return twin

    def shaking(self, tag):
        return [self.flow.take_back(tag, 0)]

    def touching(self):
        return touching_rows(self.kept(), self.low)

    def apart(self, other):
        return apart_rows(self.kept(), other.kept(), self.low)


class Turn(Step):
    """Each row with its value times `times` plus `more`."""

    def __init__(self, times, more):
        self.times = times
        self.more = more
        self.flow = Flow()

    def put(self, tag, row, side=0):
        turned = None if row is None else (row[0], row[1], row[2] * self.times + self.more)
        return self.flow.stand(tag, row, turned)

    def mark(self, at, side=0):
        sure = self.flow.rise(at)
        return (self.out_mark(), sure)

    def sides(self):
        return 1

    def out_mark(self):
        return self.flow.reached

    def loose(self):
        return in_order(self.flow.rows)

    def kept(self):
        return (self.flow.reached, self.flow.entries())

    def lay(self, kept):
        self.flow.settle(kept[0], kept[1])

    def anew(self):
        return Turn(self.times, self.more)

    def twin(self):
        twin = self.anew()
        twin.lay(self.kept())
        return twin

    def shaking(self, tag):
        return [self.flow.take_back(tag, 0)]

    def touching(self):
        return touching_rows(self.kept(), 0)

    def apart(self, other):
        return apart_rows(self.kept(), other.kept(), 0)
