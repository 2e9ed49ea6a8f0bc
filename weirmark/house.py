"""The house: streams, questions over them, and boxes in which it closes what it tells."""

from weirmark.errors import Begun, NoKeep, NoName, NoRoad, NoText, Taken, Untaken
from weirmark.inlets import Inlet
from weirmark.more8 import number_in
from weirmark.nets import Net
from weirmark.questions import read_question
from weirmark.shows import read, show

SUM_BELOW = 1000000007


class House:
    """Takes letters of all roads and hands what they change to the nets of all questions.

    Closed boxes are (number, tellings); tellings of the open one are gathered until a keep closes it.
    """

    def __init__(self):
        self.begun = 0
        self.inlets = {}
        self.ways_in = {}
        self.asked = {}
        self.number = 0
        self.closed = []
        self.gathered = []

    def stream(self, name):
        """The house has this stream too."""
        self.check_begun()
        if name in self.inlets:
            raise Taken(name)
        self.inlets[name] = Inlet()

    def road(self, stream, name):
        """The stream has this road too."""
        self.check_begun()
        inlet = self.inlet_of(stream)
        if name in self.ways_in:
            raise Taken(name)
        inlet.begin(name)
        self.ways_in[name] = stream

    def ask(self, name, text, way):
        """The house answers this question too, over the streams that it has."""
        self.check_begun()
        if name in self.asked:
            raise Taken(name)
        self.asked[name] = Asked(name, way, read_question(text, list(self.inlets)), list(self.inlets))

    def letter(self, road, number, letter):
        """The word of the inlet of the road's stream; what it changes goes to the questions."""
        stream = self.stream_of(road)
        inlet = self.inlets[stream]
        before = inlet.reached
        told = inlet.letter(road, number, letter)
        # Now some letter counted: this one, or the one that it doubles.
        self.begun = 1
        for asked in self.asked.values():
            self.gathered.extend(asked.hand(stream, told[1], None if told[2] == before else told[2]))
        return told[0]

    def due(self, road):
        """How many letters of the road counted."""
        return self.inlets[self.stream_of(road)].due(road)

    def mark_of(self, stream):
        """The mark of the stream."""
        return self.inlet_of(stream).reached

    def lates_of(self, stream):
        """How many letters of the stream were late."""
        return self.inlet_of(stream).lates()

    def loose(self, name):
        """The loose rows of the question's last step."""
        if name not in self.asked:
            raise NoName(name)
        return self.asked[name].loose()

    def keep(self):
        """Closes the open box; the text from which a house can go on."""
        self.number += 1
        self.closed.append((self.number, self.gathered))
        self.gathered = []
        streams = [(stream, inlet.kept()) for stream, inlet in self.inlets.items()]
        questions = [asked.kept() for asked in self.asked.values()]
        return keep_text((self.begun, streams, questions, self.number, self.boxes()))

    def boxes(self):
        """The list of the closed boxes that were not let go."""
        return [(number, list(tellings)) for number, tellings in self.closed]

    def taken(self, number):
        """Lets go the boxes up to this number."""
        if number > self.number:
            raise Untaken(self.number)
        self.closed = [box for box in self.closed if box[0] > number]

    def check_begun(self):
        """Refuses what must be told ahead of the first letter that counts."""
        if self.begun:
            raise Begun()

    def inlet_of(self, stream):
        """The inlet of the stream."""
        if stream not in self.inlets:
            raise NoName(stream)
        return self.inlets[stream]

    def stream_of(self, road):
        """The stream of the road."""
        if road not in self.ways_in:
            raise NoRoad(road)
        return self.ways_in[road]

    def settle(self, value):
        """A new house goes on from the value that a keep's text shows."""
        self.begun = value[0]
        for stream, kept in value[1]:
            self.inlets[stream] = Inlet()
            self.inlets[stream].lay(kept)
            for road in kept[1]:
                self.ways_in[road[0]] = stream
        for name, way, rows, kept in value[2]:
            # A net's marks tell also of which streams it is.
            self.asked[name] = Asked(name, way, rows, [stream for stream, mark in kept[0]])
            self.asked[name].net.lay(kept)
        self.number = value[3]
        self.closed = value[4]


class Asked:
    """A question that was asked, and its net."""

    def __init__(self, name, way, rows, streams):
        self.name = name
        self.way = way
        self.rows = rows
        self.net = Net(rows, streams)

    def last(self):
        """The name of the last step."""
        return self.rows[-1][0]

    def loose(self):
        """The loose rows of the last step."""
        return self.net.loose(self.last())

    def kept(self):
        """What a keep tells of the question."""
        return (self.name, self.way, list(self.rows), self.net.kept())

    def hand(self, stream, changes, at):
        """Hands the net the changes of the stream, and its mark where it is not None; what is told of it."""
        tellings = []
        if stream not in self.net.marks:
            return tellings
        for tag, row in changes:
            told = self.net.put(stream, tag, row)[self.last()]
            if self.way == "early":
                tellings.extend([(self.name,) + change for change in told])
        if at is not None:
            told = self.net.mark(stream, at)[self.last()][1]
            if self.way == "last":
                tellings.extend([(self.name,) + entry for entry in told])
        return tellings


def house_of(text):
    """A house that goes on from a keep's text; NoKeep of a text that can not be one."""
    house = House()
    house.settle(value_in(text))
    return house


def keep_text(value):
    """The text of a keep that tells the value."""
    body = show(value)
    return " ".join(["weirmark", show(len(body)), show(sum_over(body)), body])


def value_in(text):
    """The value that a keep's text tells."""
    words = text.split(" ")
    if len(words) != 4 or words[0] != "weirmark":
        raise NoKeep()
    body = words[3]
    if number_in(words[1]) != len(body) or number_in(words[2]) != sum_over(body):
        raise NoKeep()
    try:
        return read(body)
    except NoText:
        raise NoKeep()


def sum_over(body):
    """The sum by which a text is told from one that was changed a little."""
    return sum([place * ord(sign) for place, sign in enumerate(body, start=1)]) % SUM_BELOW
