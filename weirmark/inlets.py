"""The inlet: one stream whose rows come by several roads, each with its own mark."""

from weirmark.errors import BackMark, Ended, Gap, NoRoad, Taken
from weirmark.ids import id_key
from weirmark.more3 import entry_of, standing_of
from weirmark.rows import END, in_order, laid_on

STATES = {"rest": "resting", "wake": "awake", "end": "ended"}


class Inlet:
    """Takes the letters of its roads and tells what of its rows stands otherwise by them.

    Of each road it keeps how many of its letters counted, its own mark and its state; of the rows, which stand under
    the ids (road, number of the letter), those that are not below the stream's mark.
    """

    def __init__(self):
        self.reached = 0
        self.roads = {}
        self.rows = {}
        self.missed = 0

    def begin(self, road):
        """The stream has this road too."""
        if road in self.roads:
            raise Taken(road)
        if self.reached == END:
            raise Ended()
        self.roads[road] = (0, 0, "awake")

    def letter(self, road, number, letter):
        """The word, the changes and the stream's mark by the road's letter of this number."""
        wanted = self.due(road)
        if number < wanted:
            return ("double", [], self.reached)
        if number > wanted:
            raise Gap(wanted)
        self.check(road, letter)
        self.roads[road] = (wanted + 1,) + self.roads[road][1:]
        if letter[0] in ("row", "amend", "drop"):
            return self.take_row(road, number, letter)
        self.turn(road, letter)
        self.rise()
        return ("done", [], self.reached)

    def due(self, road):
        """How many letters of the road counted."""
        if road not in self.roads:
            raise NoRoad(road)
        return self.roads[road][0]

    def held_by(self):
        """The list of the roads for which the stream's mark waits, rising."""
        return [road for road in sorted(self.roads) if self.holds(road)]

    def lates(self):
        """How many letters were late."""
        return self.missed

    def standing(self):
        """The list of (id, row), in true order, of the rows that are not below the stream's mark."""
        return in_order(self.rows)

    def kept(self):
        """All that the inlet goes by."""
        roads = [(road,) + self.roads[road] for road in sorted(self.roads)]
        rows = [entry_of(tag, self.rows[tag]) for tag in sorted(self.rows, key=id_key)]
        return (self.reached, roads, rows, self.missed)

    def lay(self, kept):
        """The inlet goes on from what an inlet kept."""
        self.reached = kept[0]
        self.roads = dict([(road, (due, own, state)) for road, due, own, state in kept[1]])
        self.rows = standing_of(kept[2])
        self.missed = kept[3]

    def check(self, road, letter):
        """Refuses the letter that can not follow on those that counted."""
        if self.roads[road][2] == "ended":
            raise Ended()
        if letter[0] == "mark" and letter[1] < self.roads[road][1]:
            raise BackMark()

    def take_row(self, road, number, letter):
        """What is told of a letter that puts, amends or drops a row."""
        tag = (road, number if letter[0] == "row" else letter[1])
        row = None if letter[0] == "drop" else letter[-3:]
        old = self.rows.get(tag)
        looked_at = ([] if letter[0] == "row" else [old]) + ([] if letter[0] == "drop" else [row])
        if any([one is None or self.is_fixed(road, one) for one in looked_at]):
            self.missed += 1
            return ("late", [], self.reached)
        self.rows = laid_on(self.rows, [(tag, old, row)])
        return ("done", [] if row == old else [(tag, row)], self.reached)

    def is_fixed(self, road, row):
        """Whether the row lies below the stream's mark or the road's own."""
        return row[0] < max(self.reached, self.roads[road][1])

    def turn(self, road, letter):
        """The road's own mark or its state as the letter says."""
        many = self.roads[road][0]
        if letter[0] == "mark":
            self.roads[road] = (many, letter[1], self.roads[road][2])
        else:
            self.roads[road] = (many, self.roads[road][1], STATES[letter[0]])

    def rise(self):
        """The stream's mark rises as far as the roads let it; what is then below it is kept no more."""
        self.reached = max(self.reached, self.let_by())
        self.rows = dict([(tag, row) for tag, row in self.rows.items() if row[0] >= self.reached])

    def let_by(self):
        """The mark up to which no road that is awake holds the stream's; 0 where it stays."""
        if all([road[2] == "ended" for road in self.roads.values()]):
            return END
        return min([road[1] for road in self.roads.values() if road[2] == "awake"], default=0)

    def holds(self, road):
        """Whether the road is awake and its own mark is at most the stream's."""
        return self.roads[road][2] == "awake" and self.roads[road][1] <= self.reached
