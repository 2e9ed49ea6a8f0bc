"""Nets: the steps of a question, each of which is handed what its sources tell."""

from weirmark.both import Both
from weirmark.bycount import ByCount
from weirmark.bysilence import BySilence
from weirmark.bytime import ByTime
from weirmark.errors import BackMark, Late, NoName
from weirmark.lone import Lone
from weirmark.more8 import sources_of
from weirmark.pairs import Pairs
from weirmark.passes import Pick, Turn
from weirmark.rows import changed, true_place
from weirmark.sofar import SoFar
from weirmark.sumwords import sum_of


class Net:
    """The steps of a question, in its order, and the marks of the streams."""

    def __init__(self, rows, streams):
        self.rows = list(rows)
        self.marks = dict([(stream, 0) for stream in streams])
        self.steps = [step_of(row) for row in rows]
        # Some steps tell a mark above 0 before anything comes.
        self.pass_marks()

    def put(self, stream, tag, row):
        """The row stands under the id in the stream, none where it is None; the changes of each step's answer."""
        self.check(stream)
        if row is not None and row[0] < self.marks[stream]:
            raise Late()
        told = {stream: [(tag, None, row)]}
        for place, step in enumerate(self.steps):
            sources = sources_of(self.rows[place])
            told[self.rows[place][0]] = fed(step, [told.get(source, []) for source in sources])
        told.pop(stream)
        return told

    def mark(self, stream, at):
        """The stream's mark is now at; of each step out_mark() and the rows that became sure."""
        self.check(stream)
        if at < self.marks[stream]:
            raise BackMark()
        self.marks[stream] = at
        return self.pass_marks()

    def loose(self, name):
        """The loose rows of the step of this name."""
        names = [row[0] for row in self.rows]
        if name not in names:
            raise NoName(name)
        return self.steps[names.index(name)].loose()

    def kept(self):
        """All that the net goes by."""
        return (sorted(self.marks.items()), [step.kept() for step in self.steps])

    def lay(self, kept):
        """The net goes on from what a net of the same question and streams kept."""
        self.marks = dict(kept[0])
        for step, one in zip(self.steps, kept[1]):
            step.lay(one)

    def check(self, stream):
        """Refuses a name that no stream of the net has."""
        if stream not in self.marks:
            raise NoName(stream)

    def pass_marks(self):
        """Hands each step the marks of its sources; of each step out_mark() and the rows that became sure."""
        outs = dict(self.marks)
        told = {}
        for row, step in zip(self.rows, self.steps):
            sure = []
            for side, source in enumerate(sources_of(row)):
                sure.extend(step.mark(outs[source], side)[1])
            outs[row[0]] = step.out_mark()
            told[row[0]] = (step.out_mark(), sorted(sure, key=true_place))
        return told


def fed(step, several):
    """Hands the step the changes of its sources, a list for each side; how its answer changed by all of them."""
    before = {}
    after = {}
    for side, changes in enumerate(several):
        for tag, old, new in changes:
            for one, was, now in step.put(tag, new, side):
                before.setdefault(one, was)
                after[one] = now
    return changed(before, after)


def step_of(row):
    """A new step of the row of a question."""
    word = row[1]
    if word == "pick":
        return Pick(row[3], row[4])
    if word == "turn":
        return Turn(row[3], row[4])
    if word == "both":
        return Both()
    if word == "bytime":
        return ByTime(row[3], row[4], sum_of(row[5]))
    if word == "silence":
        return BySilence(row[3], sum_of(row[4]))
    if word == "count":
        return ByCount(row[3], sum_of(row[4]))
    if word == "sofar":
        return SoFar(sum_of(row[3]))
    if word == "pairs":
        return Pairs(row[4], row[5])
    return Lone(row[4])
