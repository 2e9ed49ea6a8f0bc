"""Points 3, 4, 6, 30 (step_of) and 31: nets."""

import copy
import random
import unittest

import plainnets
import steplaw
from plainsums import WORDS
from weirmark.both import Both
from weirmark.bycount import ByCount
from weirmark.bysilence import BySilence
from weirmark.bytime import ByTime
from weirmark.errors import BackMark, Late, NoName
from weirmark.lone import Lone
from weirmark.nets import Net, step_of
from weirmark.pairs import Pairs
from weirmark.passes import Pick, Turn
from weirmark.questions import read_question
from weirmark.rows import END, changed, in_order
from weirmark.sofar import SoFar

STREAMS = ["s", "t", "idle"]
TAGS = (-1, 0, 1, 2, ("a", 1), ("b", 0), (2, 2), (0, (0, 0)))


def net_of(text, streams=None):
    streams = STREAMS if streams is None else streams
    return Net(read_question(text, streams), streams)


class World:
    """A net and all that stands: what it must tell, by the plain answers alone."""

    def __init__(self, test, rows, streams):
        self.test = test
        self.rows = rows
        self.net = Net(rows, streams)
        self.standings = {stream: {} for stream in streams}
        self.marks = dict.fromkeys(streams, 0)
        self.sure = {row[0]: {} for row in rows}
        self.look()

    def plain(self):
        return plainnets.plain_by_hand(self.rows, self.standings)

    def put(self, stream, tag, row):
        before = self.plain()
        told = self.net.put(stream, tag, row)
        if row is None:
            self.standings[stream].pop(tag, None)
        else:
            self.standings[stream][tag] = row
        after = self.plain()
        self.test.assertEqual(told, {name: changed(before[name], after[name]) for name in before}, self.rows)
        self.look()

    def mark(self, stream, at):
        told = self.net.mark(stream, at)
        self.marks[stream] = at
        self.test.assertEqual(list(told), [row[0] for row in self.rows])
        for place, row in enumerate(self.rows):
            out, sure = told[row[0]]
            self.test.assertEqual(out, self.out(place))
            self.test.assertEqual(sure, in_order(dict(sure)))
            for tag, one in sure:
                self.test.assertNotIn(tag, self.sure[row[0]])
                self.sure[row[0]][tag] = one
        self.look()

    def out(self, place):
        step = step_of(self.rows[place])
        step.lay(self.net.kept()[1][place])
        return step.out_mark()

    def look(self):
        answers = self.plain()
        marks, keeps = self.net.kept()
        self.test.assertEqual(marks, sorted(self.marks.items()))
        outs = dict(self.marks)
        for place, row in enumerate(self.rows):
            sources = row[2:4] if row[1] in ("both", "pairs", "lone") else row[2:3]
            self.test.assertEqual(keeps[place][:len(sources)], tuple(outs[source] for source in sources))
            outs[row[0]] = self.out(place)
            loose = self.net.loose(row[0])
            self.test.assertEqual(loose, in_order(dict(loose)))
            together = dict(self.sure[row[0]])
            for tag, one in loose:
                self.test.assertNotIn(tag, together)
                together[tag] = one
            self.test.assertEqual(together, answers[row[0]], self.rows)
            if set(self.marks.values()) == {END}:
                self.test.assertEqual(loose, [])
                self.test.assertEqual([part for part in keeps[place] if isinstance(part, list) and part], [])


def some_deed(chance, world):
    stream = chance.choice(STREAMS)
    mark = world.marks[stream]
    standing = world.standings[stream]
    free = [tag for tag in TAGS if tag not in standing or standing[tag][0] >= mark]
    if chance.random() < 0.75 and free and mark < END:
        row = (mark + chance.choice((0, 0, 1, 2, 4, 7)), chance.choice("ab"), chance.randrange(-2, 3))
        return ("put", stream, chance.choice(free), None if chance.random() < 0.15 else row)
    return ("mark", stream, END if chance.random() < 0.04 else min(END, mark + chance.randrange(5)))


def do(world, deed):
    if deed[0] == "put":
        world.put(*deed[1:])
    else:
        world.mark(*deed[1:])


class ManyNetsTest(unittest.TestCase):
    def test_nets_of_many_questions(self):
        for seed in range(150):
            chance = random.Random(seed)
            world = World(self, plainnets.some_rows(chance, STREAMS[:2], most=6), STREAMS)
            for _ in range(25):
                do(world, some_deed(chance, world))
            for stream in STREAMS:
                world.mark(stream, END)

    def test_nets_of_one_step_on_another_of_each_kind(self):
        for first in plainnets.KINDS:
            for second in plainnets.KINDS:
                chance = random.Random(first + second)
                one = plainnets.some_rows(chance, STREAMS[:2], most=1, kinds=(first,))[0]
                other = plainnets.some_rows(chance, [one[0], "t"], most=1, kinds=(second,))[0]
                other = ("z",) + other[1:2] + (one[0],) + other[3:]
                world = World(self, [one, other], STREAMS)
                for _ in range(15):
                    do(world, some_deed(chance, world))
                for stream in STREAMS:
                    world.mark(stream, END)

    def test_the_same_in_the_end(self):
        for seed in range(60):
            chance = random.Random(seed)
            rows = plainnets.some_rows(chance, STREAMS[:2], most=5)
            first = World(self, rows, STREAMS)
            for _ in range(20):
                do(first, some_deed(chance, first))
            second = World(self, rows, STREAMS)
            walks = [self.some_walk(chance, first, stream) for stream in STREAMS]
            while any(walks):
                do(second, chance.choice([walk for walk in walks if walk]).pop(0))
            self.assertEqual((second.standings, second.marks), (first.standings, first.marks))
            self.assertEqual(second.net.kept(), first.net.kept())
            self.assertEqual(second.sure, first.sure)

    def some_walk(self, chance, world, stream):
        """Deeds by which the stream comes to what it has, by another way."""
        deeds = []
        entries = list(world.standings[stream].items())
        chance.shuffle(entries)
        for tag, row in entries:
            if chance.random() < 0.3:
                deeds.append(("put", stream, tag, (row[0] + 1, "b", 7)))
            deeds.append(("put", stream, tag, row))
        marks = sorted(min(world.marks[stream], chance.randrange(20)) for _ in range(2))
        return deeds + [("mark", stream, at) for at in marks + [world.marks[stream]]]

    def test_laid_nets_go_on_alike(self):
        for seed in range(50):
            chance = random.Random(seed)
            rows = plainnets.some_rows(chance, STREAMS[:2], most=5)
            world = World(self, rows, STREAMS)
            for _ in range(15):
                do(world, some_deed(chance, world))
            other = Net(rows, STREAMS)
            other.mark("s", 3)
            other.put("t", 1, (5, "a", 1))
            self.assertIsNone(other.lay(world.net.kept()))
            self.assertEqual(other.kept(), world.net.kept())
            for _ in range(15):
                deed = some_deed(chance, world)
                told = other.put(*deed[1:]) if deed[0] == "put" else other.mark(*deed[1:])
                before = {row[0]: world.net.loose(row[0]) for row in rows}
                do(world, deed)
                self.assertEqual(other.kept(), world.net.kept())
                if deed[0] == "put":
                    for name, changes in told.items():
                        after = dict(world.net.loose(name))
                        self.assertEqual(changes, changed(dict(before[name]), after))

    def test_told_things_are_the_askers(self):
        for seed in range(30):
            chance = random.Random(seed)
            rows = plainnets.some_rows(chance, STREAMS[:2], most=5)
            streams = list(STREAMS)
            handed = list(rows)
            net = Net(handed, streams)
            handed.clear()
            streams.clear()
            world = World(self, rows, STREAMS)
            for _ in range(12):
                deed = some_deed(chance, world)
                do(world, deed)
                told = net.put(*deed[1:]) if deed[0] == "put" else net.mark(*deed[1:])
                kept = net.kept()
                other = Net(rows, STREAMS)
                other.lay(kept)
                for name in list(told):
                    steplaw.spoil(told[name])
                told.clear()
                steplaw.spoil(kept)
                for row in rows:
                    steplaw.spoil(net.loose(row[0]))
                self.assertEqual(net.kept(), world.net.kept())
                self.assertEqual(other.kept(), world.net.kept())


class NetTest(unittest.TestCase):
    def test_a_chain_of_steps(self):
        net = net_of("q turn s 2 0\nr bytime q 4 4 total\nw both r t")
        self.assertEqual(net.kept(), ([("idle", 0), ("s", 0), ("t", 0)], [(0, []), (0, [], []), (3, 0, [], [])]))
        self.assertEqual(net.put("s", 1, (5, "a", 7)), {
            "q": [(1, None, (5, "a", 14))], "r": [(("a", 4), None, (7, "a", 14))],
            "w": [((0, ("a", 4)), None, (7, "a", 14))]})
        self.assertEqual(net.put("t", 1, (5, "a", 7)), {"q": [], "r": [], "w": [((1, 1), None, (5, "a", 7))]})
        self.assertEqual(net.put("s", 2, (6, "a", 1)), {
            "q": [(2, None, (6, "a", 2))], "r": [(("a", 4), (7, "a", 14), (7, "a", 16))],
            "w": [((0, ("a", 4)), (7, "a", 14), (7, "a", 16))]})
        self.assertEqual(net.put("s", 1, (5, "a", 7)), {"q": [], "r": [], "w": []})
        self.assertEqual(net.mark("s", 8), {
            "q": (8, [(1, (5, "a", 14)), (2, (6, "a", 2))]), "r": (11, [(("a", 4), (7, "a", 16))]),
            "w": (0, [((0, ("a", 4)), (7, "a", 16))])})
        self.assertEqual(net.loose("w"), [((1, 1), (5, "a", 7))])
        self.assertEqual(net.loose("r"), [])

    def test_marks_from_the_beginning_on(self):
        net = net_of("q bytime s 10 5 count\nr bytime q 7 7 count\nw pick r 0 1")
        self.assertEqual([kept[0] for kept in net.kept()[1]], [0, 4, 6])
        net = net_of("q lone s t 3\nr pairs q s 3 sum\nw silence r 2 count")
        self.assertEqual([kept[0] for kept in net.kept()[1]], [0, 0, 0])

    def test_two_sources_alike(self):
        net = net_of("q both s s\nr pairs s s 0 sum\nw lone q q 0")
        self.assertEqual(net.put("s", 1, (5, "a", 7)), {
            "q": [((0, 1), None, (5, "a", 7)), ((1, 1), None, (5, "a", 7))],
            "r": [((1, 1), None, (5, "a", 14))], "w": []})
        self.assertEqual(net.put("s", 1, (6, "a", 8)), {
            "q": [((0, 1), (5, "a", 7), (6, "a", 8)), ((1, 1), (5, "a", 7), (6, "a", 8))],
            "r": [((1, 1), (5, "a", 14), (6, "a", 16))], "w": []})
        self.assertEqual(net.mark("s", 7)["r"], (7, [((1, 1), (6, "a", 16))]))

    def test_sure_rows_of_both_marks_stand_in_true_order(self):
        net = net_of("q both s s\nr pairs q s 1 sum")
        for tag, time in ((1, 3), (2, 2), (3, 3)):
            net.put("s", tag, (time, "a", tag))
        told = net.mark("s", 9)
        self.assertEqual([tag for tag, _ in told["q"][1]], [(0, 2), (1, 2), (0, 1), (0, 3), (1, 1), (1, 3)])
        self.assertEqual(told["r"][1], in_order(dict(told["r"][1])))
        self.assertEqual(len(told["r"][1]), 18)

    def test_changes_are_those_between_before_and_behind(self):
        net = net_of("q silence s 1 total\nr lone q t 0")
        net.put("s", 1, (4, "a", 1))
        net.put("s", 2, (6, "a", 2))
        net.put("t", 1, (6, "a", 0))
        self.assertEqual(net.put("s", 3, (5, "a", 4)), {
            "q": [(("a", 4), (4, "a", 1), (6, "a", 7)), (("a", 6), (6, "a", 2), None)],
            "r": [(("a", 4), (4, "a", 1), None)]})
        net = net_of("q turn s 1 0\nr turn s -1 0\nw pairs q r 5 sum\nz sofar w count")
        net.put("s", 1, (4, "a", 1))
        self.assertEqual(net.put("s", 1, (4, "a", 9)), {
            "q": [(1, (4, "a", 1), (4, "a", 9))], "r": [(1, (4, "a", -1), (4, "a", -9))], "w": [], "z": []})

    def test_a_stream_none_of_whose_rows_come_and_one_that_nobody_asks(self):
        net = net_of("q both s t\nr lone s t 2")
        net.put("s", 1, (4, "a", 1))
        self.assertEqual(net.put("idle", 1, (4, "a", 1)), {"q": [], "r": []})
        self.assertEqual(net.mark("idle", 5), {"q": (0, []), "r": (0, [])})
        with self.assertRaises(Late):
            net.put("idle", 1, (4, "a", 1))
        with self.assertRaises(BackMark):
            net.mark("idle", 4)
        self.assertEqual(net.mark("s", END), {"q": (0, [((0, 1), (4, "a", 1))]), "r": (4, [])})
        self.assertEqual(net.mark("t", END), {"q": (END, []), "r": (END, [(1, (4, "a", 1))])})
        self.assertEqual(net.kept(), (
            [("idle", 5), ("s", END), ("t", END)], [(END, END, [], []), (END, END, [], [], [])]))

    def test_refusals_and_which_is_told_first(self):
        net = net_of("q both s t")
        net.put("s", 1, (6, "a", 1))
        net.mark("s", 5)
        kept = net.kept()
        for name in ("q", "u", "ss"):
            for ask in (lambda: net.put(name, 1, (0, "a", 1)), lambda: net.put(name, 1, None), lambda: net.mark(name, 0)):
                with self.assertRaises(NoName) as caught:
                    ask()
                self.assertEqual(caught.exception.name, name)
        with self.assertRaises(Late):
            net.put("s", 1, (4, "a", 1))
        with self.assertRaises(Late):
            net.put("s", 2, (4, "a", 1))
        with self.assertRaises(BackMark):
            net.mark("s", 4)
        for name in ("s", "t", "u"):
            with self.assertRaises(NoName) as caught:
                net.loose(name)
            self.assertEqual(caught.exception.name, name)
        self.assertEqual(net.kept(), kept)
        self.assertEqual(net.mark("s", 5), {"q": (0, [])})
        self.assertEqual(net.put("s", 1, (5, "a", 1)), {"q": [((0, 1), (6, "a", 1), (5, "a", 1))]})
        self.assertEqual(net.put("s", 1, None), {"q": [((0, 1), (5, "a", 1), None)]})

    def test_a_put_that_is_late_in_the_stream_changes_nothing_ahead(self):
        net = net_of("q both t s\nr sofar q count")
        net.mark("t", 3)
        kept = net.kept()
        with self.assertRaises(Late):
            net.put("t", 9, (2, "a", 0))
        self.assertEqual(net.kept(), kept)
        self.assertEqual(net.put("s", 9, (2, "a", 0))["r"], [((1, 9), None, (2, "a", 1))])


class StepOfTest(unittest.TestCase):
    def test_each_kind(self):
        rows = {
            "q pick s -5 9": Pick, "q turn s -3 4": Turn, "q both s t": Both, "q bytime s 10 5 total": ByTime,
            "q silence t 3 least": BySilence, "q count s 2 last": ByCount, "q sofar s unlike": SoFar,
            "q pairs s t 7 less": Pairs, "q lone t s 2": Lone}
        for text, kind in rows.items():
            row = read_question(text, STREAMS)[0]
            step = step_of(row)
            self.assertIs(type(step), kind)
            self.assertEqual(step.kept(), step.anew().kept())
            other = step_of(row)
            other.put(1, (5, "a", 1))
            self.assertNotEqual(other.kept(), step.kept())

    def test_what_they_are_made_with(self):
        handed = [(1, (3, "a", 4), 0), (2, (5, "a", 9), 0), (3, (5, "a", 4), 0), (4, (8, "a", 2), 0)]
        for kind in plainnets.KINDS:
            for seed in range(12):
                chance = random.Random(seed)
                row = plainnets.some_rows(chance, STREAMS[:2], most=1, kinds=(kind,))[0]
                step = step_of(row)
                standings = {"s": {}, "t": {}}
                for tag, one, side in handed:
                    for at in range(step.sides()):
                        step.put(tag, one, at)
                    standings[row[2]][tag] = one
                    if step.sides() == 2:
                        standings[row[3]][tag] = one
                self.assertEqual(dict(step.loose()), plainnets.plain_by_hand([row], standings)[row[0]], row)

    def test_sums_by_their_words(self):
        for word in WORDS:
            step = step_of(("q", "sofar", "s", word))
            step.put(1, (3, "a", 4))
            step.put(2, (3, "a", 6))
            self.assertEqual(step.loose()[1][1][2], {
                "count": 2, "total": 10, "least": 4, "greatest": 6, "last": 6, "unlike": 2}[word])


if __name__ == "__main__":
    unittest.main()
