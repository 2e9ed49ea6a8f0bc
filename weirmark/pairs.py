"""The step Pairs: the pairs of rows of two sides with the same key and times that are near."""

from weirmark.errors import NotLoose
from weirmark.ids import fresh_key, number_ahead
from weirmark.meets import asks, meets_any, pair_of, paired
from weirmark.more3 import keys_of, standing_of, tags_of
from weirmark.more7 import Bank, apart_marks
from weirmark.rows import END, changed, in_order
from weirmark.steps import Step


class Pairs(Step):
    """For each pair a row under the id (id of side 0's, id of side 1's)."""

    def __init__(self, within, how):
        self.within = within
        self.how = how
        self.banks = [Bank(), Bank()]

    def put(self, tag, row, side=0):
        bank = self.banks[side]
        bank.check(tag, row)
        before = self.pairs_with(tag, bank.rows.get(tag), side)
        bank.place(tag, self.needed(row, side))
        return changed(before, self.pairs_with(tag, bank.rows.get(tag), side))

    def mark(self, at, side=0):
        before = self.loose()
        self.banks[side].climb(at)
        sure = [entry for entry in before if self.is_sure(entry[0])]
        for place, bank in enumerate(self.banks):
            bank.recast([entry for entry in bank.rows.items() if self.needed(entry[1], place) is not None])
        return (self.out_mark(), sure)

    def sides(self):
        return 2

    def out_mark(self):
        return min([max([bank.reached for bank in self.banks])] + [at for at, key, side in self.next_meets()])

    def loose(self):
        pairs = paired(self.banks[0].rows, self.banks[1].rows, self.within, self.how)
        return in_order(dict([(tag, row) for tag, row in pairs.items() if not self.is_sure(tag)]))

    def kept(self):
        one = self.banks[0]
        other = self.banks[1]
        return (one.reached, other.reached, one.entries(), other.entries())

    def lay(self, kept):
        self.banks[0].settle(kept[0], kept[2])
        self.banks[1].settle(kept[1], kept[3])

    def anew(self):
        return Pairs(self.within, self.how)

    def twin(self):
        twin = self.anew()
        twin.lay(self.kept())
        return twin

    def shaking(self, tag):
        if tag not in dict(self.loose()):
            raise NotLoose()
        side = 1 if self.banks[0].is_fixed(self.banks[0].rows[tag[0]]) else 0
        return [("put", tag[side], None, side)]

    def touching(self):
        out = self.out_mark()
        if out == END:
            return None
        for at, key, side in self.next_meets():
            if at == out:
                return [self.new_put((at, key, 0), side)]
        kept = self.kept()
        row = (out, fresh_key(keys_of(kept[2] + kept[3])), 0)
        return [self.new_put(row, 0), self.new_put(row, 1)]

    def apart(self, other):
        one = self.kept()
        two = other.kept()
        if one == two:
            return None
        if one[:2] != two[:2]:
            return apart_marks(one, two, [tags_of(one[2] + two[2]), tags_of(one[3] + two[3])])
        return [self.telling(one, two)]

    def needed(self, row, side):
        """The row as it is kept; None where nothing to come can ask for it, as for no row."""
        if row is None or not (self.can_meet(row, side) or self.can_part(row, side)):
            return None
        return (row[0], row[1], row[2] if asks(self.how, side) else None)

    def can_meet(self, row, side):
        """Whether a row that comes to the other side can be in a pair with the row."""
        return row[0] + self.within >= self.banks[1 - side].reached

    def can_part(self, row, side):
        """Whether the row is in a pair and can still be taken back."""
        return not self.banks[side].is_fixed(row) and meets_any(row, self.banks[1 - side].rows, self.within)

    def pairs_with(self, tag, row, side):
        """The answer's rows, a standing, of the pairs in which the row under the id, None too, is."""
        ones = {} if row is None else {tag: row}
        others = self.banks[1 - side].rows
        return paired(others if side else ones, ones if side else others, self.within, self.how)

    def is_sure(self, tag):
        """Whether both rows of the pair under the id are fixed."""
        return all([bank.is_fixed(bank.rows[one]) for bank, one in zip(self.banks, tag)])

    def next_meets(self):
        """The list of (time, key, side): where the first row that comes to the side can meet a kept one."""
        found = []
        for side, bank in enumerate(self.banks):
            for row in bank.rows.values():
                if self.can_meet(row, side):
                    found.append((max(row[0], self.banks[1 - side].reached), row[1], 1 - side))
        return found

    def new_put(self, row, side):
        """The put of the row under a new id."""
        return ("put", number_ahead(list(self.banks[side].rows)), row, side)

    def telling(self, one, other):
        """The deed that tells two steps apart that have the same marks and keep unlike rows."""
        rises = []
        for side in (0, 1):
            for tag, old, new in changed(standing_of(one[side + 2]), standing_of(other[side + 2])):
                rows = sorted([row for row in (old, new) if row is not None], key=lambda row: row[0])
                last = rows[-1]
                if self.can_meet(last, side):
                    # At the last time at which a row can meet this one, so one of a lesser time does not meet it.
                    tags = tags_of(one[3 - side] + other[3 - side])
                    return ("put", number_ahead(tags), (last[0] + self.within, last[1], 0), 1 - side)
                rises.append(("mark", rows[0][0] + 1, side))
        # Now all that unlike rows meet is fixed and kept alike, and the pairs that become sure are unlike.
        return rises[0]
