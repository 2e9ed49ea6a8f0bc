"""The step Both, which passes on all rows of two sides."""

from weirmark.errors import NotLoose
from weirmark.more3 import Flow, new_put, unlike_tag
from weirmark.rows import END, in_order
from weirmark.steps import Step


class Both(Step):
    """The rows of both sides, under the ids (side, id)."""

    def __init__(self):
        self.flows = [Flow(), Flow()]

    def put(self, tag, row, side=0):
        return [((side, one), old, new) for one, old, new in self.flows[side].stand(tag, row, row)]

    def mark(self, at, side=0):
        sure = sided(self.flows[side].rise(at), side)
        return (self.out_mark(), sure)

    def sides(self):
        return 2

    def out_mark(self):
        return min([flow.reached for flow in self.flows])

    def loose(self):
        rows = [sided(list(flow.rows.items()), side) for side, flow in enumerate(self.flows)]
        return in_order(dict(rows[0] + rows[1]))

    def kept(self):
        one = self.flows[0]
        other = self.flows[1]
        return (one.reached, other.reached, one.entries(), other.entries())

    def lay(self, kept):
        self.flows[0].settle(kept[0], kept[2])
        self.flows[1].settle(kept[1], kept[3])

    def anew(self):
        return Both()

    def twin(self):
        twin = self.anew()
        twin.lay(self.kept())
        return twin

    def shaking(self, tag):
        if not isinstance(tag, tuple) or tag[0] not in (0, 1):
            raise NotLoose()
        return [self.flows[tag[0]].take_back(tag[1], tag[0])]

    def touching(self):
        out = self.out_mark()
        side = 0 if self.flows[0].reached == out else 1
        return None if out == END else [new_put(out, 0, self.flows[side].entries(), side)]

    def apart(self, other):
        return apart_sides(self.kept(), other.kept())


def sided(entries, side):
    """The entries (id, row) of one side under the ids of the answer."""
    return [((side, tag), row) for tag, row in entries]


def apart_sides(one, other):
    """Deeds that tell two steps that keep (mark, mark, rows, rows) apart."""
    for side in (0, 1):
        if one[side] != other[side]:
            # One of the two refuses it as late.
            return [new_put(min(one[side], other[side]), 0, one[side + 2] + other[side + 2], side)]
    for side in (0, 1):
        if one[side + 2] != other[side + 2]:
            return [("put", unlike_tag(one[side + 2], other[side + 2]), None, side)]
    return None
