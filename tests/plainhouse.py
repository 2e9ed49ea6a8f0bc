"""Houses and letters made by chance, and what a house must tell, worked out by the plain answers alone."""

import plainnets
from weirmark.house import House
from weirmark.inlets import Inlet
from weirmark.questions import show_question
from weirmark.rows import changed, laid_on

STREAMS = ["s", "t"]
ROADS = {"a": "s", "b": "s", "c": "t"}


def some_letters(chance, many, rests=False):
    """One road's letters, of which an inlet refuses none; some are late."""
    letters = []
    mark = 0
    for _ in range(many):
        time = max(0, mark + chance.choice((-1, 0, 0, 1, 2, 4)))
        row = (time, chance.choice("xy"), chance.randrange(-2, 3))
        kinds = ["row", "row", "row", "amend", "drop", "mark", "mark"] + (["rest", "wake", "wake"] if rests else [])
        kind = chance.choice(kinds)
        if kind == "row":
            letters.append(("row",) + row)
        elif kind == "amend":
            letters.append(("amend", chance.randrange(len(letters) + 2)) + row)
        elif kind == "drop":
            letters.append(("drop", chance.randrange(len(letters) + 2)))
        elif kind == "mark":
            mark += chance.randrange(4)
            letters.append(("mark", mark))
        else:
            letters.append((kind,))
    return letters


def woven(chance, letters):
    """One way to weave each road's letters, as a list of (road, number, letter)."""
    left = {road: list(enumerate(several)) for road, several in letters.items()}
    order = []
    while any(left.values()):
        road = chance.choice([road for road in left if left[road]])
        number, letter = left[road].pop(0)
        order.append((road, number, letter))
    return order


def some_questions(chance, many=3):
    """A list of (name, rows, way)."""
    questions = []
    for name in ("a", "s", "zz", "pick")[:many]:
        questions.append((name, plainnets.some_rows(chance, STREAMS, most=4), chance.choice(("early", "last"))))
    return questions


def house_with(questions):
    house = House()
    for stream in STREAMS:
        house.stream(stream)
    for road, stream in ROADS.items():
        house.road(stream, road)
    for name, rows, way in questions:
        house.ask(name, show_question(rows), way)
    return house


class Standings:
    """What stands in the streams, fixed rows too."""

    def __init__(self):
        self.inlets = {stream: Inlet() for stream in STREAMS}
        self.rows = {stream: {} for stream in STREAMS}
        for road, stream in ROADS.items():
            self.inlets[stream].begin(road)

    def letter(self, road, number, letter):
        stream = ROADS[road]
        word, changes, _ = self.inlets[stream].letter(road, number, letter)
        self.rows[stream] = laid_on(self.rows[stream], [(tag, None, row) for tag, row in changes])
        return word

    def plain(self, rows):
        """The plain answer of a question's last step."""
        return plainnets.plain_by_hand(rows, self.rows)[rows[-1][0]]


def tellings_of(boxes, name):
    return [telling[1:] for _, tellings in boxes for telling in tellings if telling[0] == name]


def check_tellings(test, boxes, standings, questions, ended):
    """Point 7: early tellings laid on one another are the plain answer, last ones its sure rows, each once."""
    for name, rows, way in questions:
        told = tellings_of(boxes, name)
        answer = standings.plain(rows)
        if way == "early":
            laid = {}
            for tag, old, new in told:
                test.assertEqual(laid.get(tag), old)
                laid = laid_on(laid, [(tag, old, new)])
            test.assertEqual(changed(laid, answer), [], rows)
        else:
            test.assertEqual(len(dict(told)), len(told), "each once")
            for tag, row in told:
                test.assertEqual(answer.get(tag), row, rows)
            if ended:
                test.assertEqual(dict(told), answer, rows)
