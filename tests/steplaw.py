"""What points 3, 4, 5, 15, 16 and 17 promise of every step, looked at along many rows of deeds.

A `Making` says how a step is made and what is the plain answer of its question; the checks lean on nothing else.
"""

import copy
import inspect
import random

from weirmark.errors import BackMark, Fixed, Late, NotLoose
from weirmark.ids import id_key, is_id
from weirmark.rows import END, changed, in_order, is_row
from weirmark.runs import run
from weirmark.steps import Step

METHODS = (
    "put", "mark", "sides", "out_mark", "loose", "kept", "lay", "anew", "twin", "shaking", "touching", "apart",
)
IDS = (-1, 0, 1, 5, (0, 1), ("a", 3), ("b", ("a", -1)), ((1, 2), 0))


class Making:
    """How a step is made, its sides, and the plain answer over the list of its sides' standings.

    Where keep and out are given, they tell of these standings and the list of the marks what kept() and out_mark()
    must be.
    """

    def __init__(self, make, plain, values, sides=1, longest=14, keys="ab", keep=None, out=None):
        self.make = make
        self.plain = plain
        self.values = values
        self.sides = sides
        self.longest = longest
        self.keys = keys
        self.keep = keep
        self.out = out


class World:
    """A step and all that stands: what the step must answer, told by the plain answer alone."""

    def __init__(self, test, making):
        self.test = test
        self.making = making
        self.step = making.make()
        self.standings = [{} for _ in range(making.sides)]
        self.marks = [0] * making.sides
        self.sure = {}

    def plain(self):
        return self.making.plain(self.standings)

    def is_fixed(self, tag, side):
        row = self.standings[side].get(tag)
        return row is not None and row[0] < self.marks[side]

    def put(self, tag, row, side):
        before = self.plain()
        out = self.step.out_mark()
        told = self.step.put(tag, row, side)
        if row is None:
            self.standings[side].pop(tag, None)
        else:
            self.standings[side][tag] = row
        self.test.assertEqual(told, changed(before, self.plain()), "(a): how the answer changed")
        for _, old, new in told:
            for one in (old, new):
                self.test.assertTrue(one is None or one[0] >= out, "(c): a row below out_mark() changed")
        self.look()

    def mark(self, at, side):
        answers = self.plain()
        told = self.step.mark(at, side)
        self.test.assertIs(type(told), tuple)
        out, sure = told
        if at == self.marks[side]:
            self.test.assertEqual(sure, [], "15: nothing becomes sure by the mark itself")
        self.marks[side] = at
        self.test.assertEqual(out, self.step.out_mark(), "15: out")
        self.test.assertEqual(sure, in_order(dict(sure)), "15: sure rows in true order")
        for tag, row in sure:
            self.test.assertNotIn(tag, self.sure, "(b): a sure row is told once")
            self.test.assertEqual(answers.get(tag), row, "15: a sure row is one of the answer")
            self.sure[tag] = row
        self.look()

    def look(self):
        """(a), and point 16 of loose() and kept()."""
        loose = self.step.loose()
        together = dict(self.sure)
        for tag, row in loose:
            self.test.assertNotIn(tag, together, "(b): a row is sure or loose")
            together[tag] = row
        self.test.assertEqual(together, self.plain(), "(a): sure and loose rows are the plain answer")
        self.test.assertEqual(loose, in_order(dict(loose)), "16: loose rows in true order")
        kept = self.step.kept()
        self.test.assertIs(type(kept), tuple)
        self.test.assertEqual(list(kept[:self.making.sides]), self.marks)
        if self.making.keep is not None:
            self.test.assertEqual(kept, self.making.keep(self.standings, self.marks))
        if self.making.out is not None:
            self.test.assertEqual(self.step.out_mark(), self.making.out(self.standings, self.marks))
        for entries in kept[self.making.sides:]:
            self.test.assertIs(type(entries), list)
            if entries and is_id(entries[0][0]):
                tags = [entry[0] for entry in entries]
                self.test.assertEqual(tags, sorted(tags, key=id_key))
        if self.marks == [END] * self.making.sides:
            self.test.assertEqual(loose, [])
            self.test.assertEqual(list(kept[self.making.sides:]), [[]] * (len(kept) - self.making.sides))
            self.test.assertEqual(self.step.out_mark(), END)


def some_row(chance, making, least):
    time = least + chance.choice((0, 0, 1, 2, chance.randrange(making.longest)))
    return (time, chance.choice(making.keys), chance.choice(making.values))


def some_deed(chance, world):
    """A deed that is not refused and puts nothing under the id of a fixed row."""
    making = world.making
    side = chance.randrange(making.sides)
    free = [tag for tag in IDS if not world.is_fixed(tag, side)]
    if (chance.random() < 0.75 or world.marks[side] == END) and free and world.marks[side] < END:
        row = None if chance.random() < 0.2 else some_row(chance, making, world.marks[side])
        return ("put", chance.choice(free), row, side)
    at = world.marks[side] if chance.random() < 0.15 else min(END, world.marks[side] + chance.randrange(4))
    return ("mark", END if chance.random() < 0.03 else at, side)


def do(world, deed):
    if deed[0] == "put":
        world.put(*deed[1:])
    else:
        world.mark(*deed[1:])


def some_world(test, making, seed, deeds):
    chance = random.Random(seed)
    world = World(test, making)
    world.look()
    for _ in range(deeds):
        do(world, some_deed(chance, world))
    return world


def check_all(test, making, seeds):
    """All that holds of every step."""
    check_interface(test, making)
    check_deeds(test, making, seeds=2 * seeds)
    check_asking(test, making, seeds=seeds // 2)
    check_equal_keeps(test, making, seeds=seeds)
    check_same_in_the_end(test, making, seeds=seeds)
    check_nothing_shared(test, making, seeds=seeds // 2)


def check_interface(test, making):
    """Every method in the step's own class, which leans on none of Step's."""
    step = making.make()
    test.assertIsInstance(step, Step)
    test.assertEqual(step.sides(), making.sides)
    for name in METHODS:
        test.assertIn(name, vars(type(step)))
    for method in (step.put, step.mark):
        test.assertEqual(inspect.signature(method).parameters["side"].default, 0)


def check_deeds(test, making, seeds=60, length=30):
    """(a), (b), (c) along rows of deeds."""
    for seed in range(seeds):
        some_world(test, making, seed, length)


def entries_in(kept):
    return sum(len(part) for part in kept if isinstance(part, list))


def check_told_deeds(test, making, deeds, steps, kinds):
    """Point 17: what told deeds are, and that none is refused but with Late."""
    test.assertIs(type(deeds), list)
    test.assertTrue(deeds)
    test.assertLessEqual(len(deeds), 200 + 4 * sum(entries_in(step.kept()) for step in steps))
    for deed in deeds:
        test.assertIs(type(deed), tuple)
        test.assertIn(deed[0], kinds)
        test.assertIn(deed[-1], range(making.sides))
        if deed[0] == "put":
            test.assertEqual(len(deed), 4)
            test.assertTrue(is_id(nested(deed[1], 4 + (making.sides == 2))))
            test.assertTrue(deed[2] is None or is_row(deed[2]), deed)
        else:
            test.assertEqual(len(deed), 3)
            test.assertTrue(0 <= deed[1] <= END)
    for step in steps:
        for answer in run(step, deeds):
            test.assertIn(answer[0], ("told", "marked", "late"))


def nested(tag, deeper):
    for _ in range(deeper):
        tag = ("a", tag)
    return tag


def check_shaking(test, making, step):
    """(b): each loose row can still be changed."""
    tags = [tag for tag, _ in step.loose()]
    kept = step.kept()
    for tag in tags:
        deeds = step.shaking(tag)
        check_told_deeds(test, making, deeds, [step], ("put",))
        answers = run(step, deeds)
        for place, answer in enumerate(answers):
            touched = answer[0] == "told" and tag in [change[0] for change in answer[1]]
            test.assertEqual(touched, place == len(answers) - 1, (tag, deeds))
    for tag in (99, ("zz", 0), ((9, 9), 9)) + IDS:
        if tag not in tags:
            with test.assertRaises(NotLoose):
                step.shaking(tag)
    test.assertEqual(step.kept(), kept)


def check_touching(test, making, step):
    """(c): a row just at out_mark() can be changed."""
    kept = step.kept()
    deeds = step.touching()
    if step.out_mark() == END:
        test.assertIsNone(deeds)
        return
    check_told_deeds(test, making, deeds, [step], ("put",))
    last = run(step, deeds)[-1]
    times = [row[0] for change in last[1] for row in change[1:] if row is not None]
    test.assertIn(step.out_mark(), times, deeds)
    test.assertEqual(step.kept(), kept)


def check_apart(test, making, one, other):
    """(d): unlike kept() are told apart, alike ones answer alike."""
    keeps = (one.kept(), other.kept())
    deeds = one.apart(other)
    if keeps[0] == keeps[1]:
        test.assertIsNone(deeds)
        return
    check_told_deeds(test, making, deeds, [one, other], ("put", "mark"))
    ones = run(one, deeds)
    others = run(other, deeds)
    test.assertEqual(ones[:-1], others[:-1], deeds)
    test.assertNotEqual(ones[-1], others[-1], (keeps, deeds))
    test.assertEqual((one.kept(), other.kept()), keeps)


def check_asking(test, making, seeds=40):
    """shaking and touching at many moments, apart of many pairs from either side."""
    steps = []
    for seed in range(seeds):
        chance = random.Random(seed)
        step = some_world(test, making, seed, chance.randrange(25)).step
        check_shaking(test, making, step)
        check_touching(test, making, step)
        steps.append(step)
        # A step that differs by one deed alone, which a whole other history seldom brings.
        near = step.twin()
        run_on(near, [some_bold_deed(chance, making, near)])
        steps.append(near)
    for one in steps:
        for other in steps:
            check_apart(test, making, one, other)


def some_bold_deed(chance, making, step):
    """Any deed, under whatever id, refused or not."""
    side = chance.randrange(making.sides)
    mark = step.kept()[side]
    if chance.random() < 0.7:
        row = None if chance.random() < 0.2 else some_row(chance, making, max(0, min(mark, 100) - chance.randrange(2)))
        return ("put", chance.choice(IDS), row, side)
    return ("mark", max(0, min(END, mark + chance.randrange(-1, 4))), side)


def run_on(step, deeds):
    """Does the deeds; what is refused must change nothing."""
    for deed in deeds:
        kept = step.kept()
        loose = step.loose()
        try:
            if deed[0] == "put":
                step.put(*deed[1:])
            else:
                step.mark(*deed[1:])
        except (Late, Fixed, BackMark):
            if step.kept() != kept or step.loose() != loose:
                raise AssertionError("4: what is refused changes nothing")


def check_equal_keeps(test, making, seeds=40):
    """(d): where kept() are equal, each row of whatever deeds is answered alike; laid ones and twins among them."""
    for seed in range(seeds):
        chance = random.Random(seed)
        step = making.make()
        run_on(step, [some_bold_deed(chance, making, step) for _ in range(chance.randrange(20))])
        laid = making.make()
        run_on(laid, [some_bold_deed(chance, making, laid) for _ in range(5)])
        test.assertIsNone(laid.lay(step.kept()))
        for other in (laid, step.twin()):
            test.assertIs(type(other), type(step))
            test.assertEqual(other.kept(), step.kept())
            test.assertEqual(other.loose(), step.loose())
            test.assertEqual(other.out_mark(), step.out_mark())
            test.assertIsNone(step.apart(other))
            deeds = [some_bold_deed(chance, making, step) for _ in range(25)]
            test.assertEqual(run(other, deeds), run(step, deeds))
        test.assertEqual(step.anew().kept(), making.make().kept())


def check_same_in_the_end(test, making, seeds=40):
    """(e): the same standing rows and marks, come about in two ways, leave the same kept() and sure rows."""
    for seed in range(seeds):
        first = some_world(test, making, seed, 25)
        second = World(test, making)
        chance = random.Random(seed + 1000)
        walks = [some_walk(chance, first, side) for side in range(making.sides)]
        while any(walks):
            side = chance.choice([side for side in range(making.sides) if walks[side]])
            do(second, walks[side].pop(0))
        test.assertEqual((second.standings, second.marks), (first.standings, first.marks))
        test.assertEqual(second.step.kept(), first.step.kept(), "(e)")
        test.assertEqual(second.sure, first.sure, "(e)")
        test.assertEqual(second.step.loose(), first.step.loose(), "(e)")


def some_walk(chance, world, side):
    """Deeds of one side by which its rows come to stand and its mark to where it is, by another way."""
    mark = world.marks[side]
    marks = sorted({0, mark} | {chance.randrange(min(mark, 50) + 1) for _ in range(3)})
    later = dict(world.standings[side])
    deeds = []
    for place, at in enumerate(marks):
        deeds.append(("mark", at, side))
        above = marks[place + 1] if place + 1 < len(marks) else END
        due = [tag for tag, row in later.items() if row[0] < above or above == END or chance.random() < 0.4]
        chance.shuffle(due)
        for tag in due:
            row = later.pop(tag)
            if chance.random() < 0.4:
                deeds.append(("put", tag, (row[0] + chance.randrange(3), "b", chance.choice(world.making.values)), side))
            deeds.append(("put", tag, row, side))
        if at < END:
            deeds.append(("put", 77, (at, "a", chance.choice(world.making.values)), side))
            deeds.append(("put", 77, None, side))
    return deeds


def spoil(thing):
    """Changes whatever can be changed in a told thing."""
    if isinstance(thing, (list, tuple)):
        for part in thing:
            spoil(part)
    if isinstance(thing, list):
        thing.append("spoiled")
        thing.reverse()
    if isinstance(thing, dict):
        thing.clear()


def check_nothing_shared(test, making, seeds=30):
    """Point 3: told lists can be changed, handed ones too, and what only asks changes nothing."""
    for seed in range(seeds):
        chance = random.Random(seed)
        step = making.make()
        apart_from = making.make()
        apart_from.mark(3)
        deeds = [some_bold_deed(chance, making, step) for _ in range(15)]
        whole = run(step, deeds)
        for place, deed in enumerate(deeds):
            told = run(step, [deed])[0]
            test.assertEqual(told, whole[place])
            handed = list(copy.deepcopy(step.kept()))
            laid = making.make()
            laid.lay(tuple(handed))
            asked = [step.kept(), step.loose(), step.touching(), step.apart(apart_from)]
            asked += [step.shaking(tag) for tag, _ in step.loose()]
            kept = copy.deepcopy(step.kept())
            spoil(asked)
            spoil(handed)
            test.assertEqual(step.kept(), kept)
            test.assertEqual(laid.kept(), kept)
            twin = step.twin()
            run_on(twin, [("put", 3, (500, "a", 1), 0), ("mark", 400, 0)])
            test.assertEqual(step.kept(), kept)
            if deed[0] == "put" and told[0] == "told":
                answer = step.put(*deed[1:])
                test.assertEqual(("told", answer), told)
                spoil(answer)
            elif deed[0] == "mark" and told[0] == "marked":
                answer = step.mark(*deed[1:])
                test.assertEqual(("marked",) + answer, told)
                spoil(answer)
            later = step.kept()
            test.assertEqual(later, run_all(making, deeds[:place + 1]).kept())


def check_fixed(test, making, seeds, places):
    """Point 15: the rows that a step keeps fixed can not be put anew; places say where each side's rows are kept."""
    refused = 0
    for seed in range(seeds):
        step = some_world(test, making, seed, 25).step
        kept = step.kept()
        for side in range(making.sides):
            entries = kept[places[side]]
            fixed = [entry[0] for entry in entries if entry[1] < kept[side]]
            refused += len(fixed)
            for tag in IDS + (99,):
                rows = [None] + ([] if kept[side] == END else [(kept[side], "a", 0), (kept[side] + 9, "b", 1)])
                for row in rows:
                    told = run(step, [("put", tag, row, side)])[0]
                    test.assertEqual(told[0], "fixed" if tag in fixed else "told")
                if kept[side] > 0:
                    late = ("put", tag, (min(kept[side], 10 ** 11) - 1, "a", 0), side)
                    test.assertEqual(run(step, [late]), [("late",)], "15: Late is told first")
            for tag in fixed:
                with test.assertRaises(Fixed):
                    step.put(tag, None, side)
        test.assertEqual(step.kept(), kept)
    test.assertTrue(refused)


def some_steps(making, deeds, most):
    """Steps that keep each something else, some of all that these deeds lead to in whatever order."""
    chance = random.Random(most)
    first = making.make()
    steps = {repr(first.kept()): first}
    ahead = [first]
    while ahead and len(steps) < most:
        step = ahead.pop(chance.randrange(len(ahead)))
        for deed in deeds:
            twin = step.twin()
            run_on(twin, [deed])
            if repr(twin.kept()) not in steps:
                steps[repr(twin.kept())] = twin
                ahead.append(twin)
    return list(steps.values())


def parts_of(making, step):
    """The entries that a step keeps, each with the place of its list."""
    return {
        (place, repr(entry)) for place, entries in enumerate(step.kept()[making.sides:]) for entry in entries}


def check_near_pairs(test, making, deeds, most=150, pairs=400, unlike=2):
    """(b), (c) of some such steps, (d) of pairs of them with the same marks that differ by few entries."""
    steps = some_steps(making, deeds, most)
    chance = random.Random(most)
    for step in chance.sample(steps, min(len(steps), 60)):
        check_shaking(test, making, step)
        check_touching(test, making, step)
    held = [(step, step.kept()[:making.sides], parts_of(making, step)) for step in steps]
    near = []
    for place, (one, marks, parts) in enumerate(held):
        near += [
            (one, other) for other, other_marks, other_parts in held[:place]
            if marks == other_marks and len(parts ^ other_parts) <= unlike]
    test.assertTrue(near)
    for one, other in chance.sample(near, min(len(near), pairs)):
        check_apart(test, making, one, other)
        check_apart(test, making, other, one)


def near_deeds(ids, times, keys, values, sides=1):
    """Puts and marks of which few steps differ much."""
    deeds = []
    for side in range(sides):
        rows = [None] + [(time, key, value) for time in times for key in keys for value in values]
        deeds += [("put", tag, row, side) for tag in ids for row in rows]
        deeds += [("mark", at, side) for at in times] + [("mark", max(times) + 1, side)]
    return deeds


def run_all(making, deeds):
    step = making.make()
    run_on(step, deeds)
    return step
