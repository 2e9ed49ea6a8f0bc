"""Point 29, and points 3 and 4 of it: inlets."""

import copy
import random
import unittest

import steplaw
from weirmark.errors import BackMark, Ended, Gap, NoRoad, Taken
from weirmark.ids import id_key
from weirmark.inlets import Inlet
from weirmark.rows import END, in_order

ROADS = ("a", "b", "north")


class Plain:
    """An inlet that forgets nothing and works everything out anew from all letters that counted."""

    def __init__(self):
        self.counted = []

    def own(self, road, letters):
        return max([0] + [letter[1] for one, letter in letters if one == road and letter[0] == "mark"])

    def state(self, road, letters):
        words = [letter[0] for one, letter in letters if one == road and letter[0] in ("rest", "wake", "end")]
        return {"rest": "resting", "wake": "awake", "end": "ended"}[words[-1]] if words else "awake"

    def play(self):
        """The stream's mark, the rows that stand, how many were late, and what the last letter told."""
        mark = 0
        rows = {}
        lates = 0
        told = None
        numbers = {}
        roads = []
        ahead = []
        for road, letter in self.counted:
            if letter == "begin":
                roads.append(road)
                continue
            number = numbers.get(road, 0)
            numbers[road] = number + 1
            fixed = max(mark, self.own(road, ahead))
            word, changes = "done", []
            if letter[0] == "row":
                if letter[1] < fixed:
                    word = "late"
                else:
                    rows[(road, number)] = letter[1:]
                    changes = [((road, number), letter[1:])]
            elif letter[0] in ("amend", "drop"):
                tag = (road, letter[1])
                if tag not in rows or rows[tag][0] < fixed or letter[0] == "amend" and letter[2] < fixed:
                    word = "late"
                elif letter[0] == "drop":
                    del rows[tag]
                    changes = [(tag, None)]
                elif rows[tag] != letter[2:]:
                    rows[tag] = letter[2:]
                    changes = [(tag, letter[2:])]
            lates += word == "late"
            ahead.append((road, letter))
            awake = [self.own(one, ahead) for one in roads if self.state(one, ahead) == "awake"]
            if awake:
                mark = max(mark, min(awake))
            elif all(self.state(one, ahead) == "ended" for one in roads):
                mark = END
            told = (word, changes, mark)
        return (mark, {tag: row for tag, row in rows.items() if row[0] >= mark}, lates, told, roads, numbers, ahead)


def some_letter(chance, mark):
    time = mark + chance.randrange(-2, 4)
    row = (max(0, min(time, 10 ** 9)), chance.choice("xy"), chance.randrange(2))
    return chance.choice((
        ("row",) + row, ("row",) + row, ("amend", chance.randrange(4)) + row, ("amend", chance.randrange(9)) + row,
        ("drop", chance.randrange(6)), ("mark", max(0, time)), ("mark", max(0, time)), ("rest",), ("wake",),
        ("wake",), ("end",) if chance.random() < 0.4 else ("drop", 0)))


def begun(*roads):
    inlet = Inlet()
    for road in roads:
        inlet.begin(road)
    return inlet


def hand(inlet, road, *letters):
    """Hands in letters, from the due one on; what they tell."""
    return [inlet.letter(road, inlet.due(road), letter) for letter in letters]


class ManyLettersTest(unittest.TestCase):
    def test_against_an_inlet_that_forgets_nothing(self):
        for seed in range(150):
            chance = random.Random(seed)
            inlet = Inlet()
            plain = Plain()
            for _ in range(35):
                mark, _, _, _, roads, numbers, ahead = plain.play()
                road = chance.choice(ROADS)
                if road not in roads:
                    if chance.random() < 0.5 and mark < END:
                        self.assertIsNone(inlet.begin(road))
                        plain.counted.append((road, "begin"))
                    else:
                        with self.assertRaises(NoRoad):
                            inlet.letter(road, 0, ("rest",))
                    continue
                letter = some_letter(chance, mark if mark < END else 5)
                number = numbers.get(road, 0)
                kept = inlet.kept()
                if plain.state(road, ahead) == "ended":
                    with self.assertRaises(Ended):
                        inlet.letter(road, number, letter)
                    self.assertEqual(inlet.kept(), kept)
                    continue
                if letter[0] == "mark" and letter[1] < plain.own(road, ahead):
                    with self.assertRaises(BackMark):
                        inlet.letter(road, number, letter)
                    self.assertEqual(inlet.kept(), kept)
                    continue
                plain.counted.append((road, letter))
                told = inlet.letter(road, number, letter)
                self.look(inlet, plain, told)
                if chance.random() < 0.2:
                    other = begun("c", "a")
                    hand(other, "c", ("row", 5, "x", 1), ("mark", 3))
                    self.assertIsNone(other.lay(inlet.kept()))
                    inlet = other

    def look(self, inlet, plain, told):
        mark, rows, lates, wanted, roads, numbers, ahead = plain.play()
        self.assertEqual(told, wanted)
        self.assertEqual(inlet.lates(), lates)
        self.assertEqual(inlet.standing(), in_order(rows))
        held = [
            road for road in sorted(roads) if plain.state(road, ahead) == "awake" and plain.own(road, ahead) <= mark]
        self.assertEqual(inlet.held_by(), held)
        entries = [
            (road, numbers.get(road, 0), plain.own(road, ahead), plain.state(road, ahead)) for road in sorted(roads)]
        kept_rows = [(tag,) + rows[tag] for tag in sorted(rows, key=id_key)]
        self.assertEqual(inlet.kept(), (mark, entries, kept_rows, lates))
        for road in roads:
            self.assertEqual(inlet.due(road), numbers.get(road, 0))

    def test_letters_told_twice_change_nothing(self):
        for seed in range(30):
            chance = random.Random(seed)
            inlet = begun("a", "b")
            for _ in range(25):
                road = chance.choice("ab")
                kept = inlet.kept()
                for number in range(inlet.due(road)):
                    self.assertEqual(inlet.letter(road, number, some_letter(chance, 4)), ("double", [], kept[0]))
                for number in (inlet.due(road) + 1, inlet.due(road) + 2, 10 ** 9):
                    with self.assertRaises(Gap) as caught:
                        inlet.letter(road, number, some_letter(chance, 4))
                    self.assertEqual(caught.exception.wanted, inlet.due(road))
                self.assertEqual(inlet.kept(), kept)
                try:
                    hand(inlet, road, some_letter(chance, min(kept[0], 10)))
                except (Ended, BackMark):
                    self.assertEqual(inlet.kept(), kept)

    def test_told_things_are_the_askers(self):
        for seed in range(30):
            chance = random.Random(seed)
            inlet = begun("a", "b")
            for _ in range(20):
                try:
                    told = hand(inlet, chance.choice("ab"), some_letter(chance, min(inlet.kept()[0], 10)))
                except (Ended, BackMark):
                    continue
                kept = copy.deepcopy(inlet.kept())
                handed = copy.deepcopy(kept)
                other = Inlet()
                other.lay(handed)
                steplaw.spoil([told, inlet.kept(), inlet.standing(), inlet.held_by(), handed])
                self.assertEqual((inlet.kept(), other.kept()), (kept, kept))
                if other.kept()[0] < END:
                    other.begin("zz")
                self.assertEqual(inlet.kept(), kept)


class RowsTest(unittest.TestCase):
    def test_a_row_stands_under_its_road_and_number(self):
        inlet = begun("a", "b")
        self.assertEqual(inlet.letter("a", 0, ("row", 5, "x", 7)), ("done", [(("a", 0), (5, "x", 7))], 0))
        self.assertEqual(inlet.letter("b", 0, ("row", 5, "x", 8)), ("done", [(("b", 0), (5, "x", 8))], 0))
        self.assertEqual(inlet.letter("a", 1, ("row", 0, "y", -1)), ("done", [(("a", 1), (0, "y", -1))], 0))
        self.assertEqual(inlet.standing(), [(("a", 1), (0, "y", -1)), (("a", 0), (5, "x", 7)), (("b", 0), (5, "x", 8))])
        self.assertEqual(inlet.kept(), (
            0, [("a", 2, 0, "awake"), ("b", 1, 0, "awake")],
            [(("a", 0), 5, "x", 7), (("a", 1), 0, "y", -1), (("b", 0), 5, "x", 8)], 0))

    def test_amendments_and_drops(self):
        inlet = begun("a", "b")
        hand(inlet, "a", ("row", 5, "x", 7))
        self.assertEqual(hand(inlet, "a", ("amend", 0, 6, "y", 8)), [("done", [(("a", 0), (6, "y", 8))], 0)])
        self.assertEqual(hand(inlet, "a", ("amend", 0, 6, "y", 8)), [("done", [], 0)])
        self.assertEqual(hand(inlet, "a", ("amend", 1, 6, "y", 8)), [("late", [], 0)])
        self.assertEqual(hand(inlet, "b", ("amend", 0, 6, "y", 8)), [("late", [], 0)])
        self.assertEqual(hand(inlet, "a", ("amend", 5, 6, "y", 8), ("amend", 99, 6, "y", 8)), [("late", [], 0)] * 2)
        self.assertEqual(inlet.lates(), 4)
        self.assertEqual(hand(inlet, "a", ("drop", 0)), [("done", [(("a", 0), None)], 0)])
        self.assertEqual(hand(inlet, "a", ("drop", 0), ("amend", 0, 6, "y", 8)), [("late", [], 0)] * 2)
        self.assertEqual((inlet.lates(), inlet.standing(), inlet.due("a")), (6, [], 9))

    def test_late_by_the_roads_own_mark(self):
        inlet = begun("a", "b")
        hand(inlet, "a", ("row", 4, "x", 1), ("row", 5, "x", 2), ("mark", 5))
        kept = inlet.kept()
        self.assertEqual(kept[0], 0)
        late = hand(
            inlet, "a", ("row", 4, "x", 3), ("amend", 0, 9, "x", 3), ("drop", 0), ("amend", 1, 4, "x", 3),
            ("amend", 0, 4, "x", 1))
        self.assertEqual(late, [("late", [], 0)] * 5)
        self.assertEqual(inlet.kept(), (0, [("a", 8, 5, "awake"), ("b", 0, 0, "awake")], kept[2], 5))
        self.assertEqual(hand(inlet, "b", ("row", 4, "x", 3)), [("done", [(("b", 0), (4, "x", 3))], 0)])
        self.assertEqual(hand(inlet, "a", ("amend", 1, 5, "x", 3)), [("done", [(("a", 1), (5, "x", 3))], 0)])
        self.assertEqual(hand(inlet, "a", ("row", 5, "x", 4), ("drop", 1)), [
            ("done", [(("a", 9), (5, "x", 4))], 0), ("done", [(("a", 1), None)], 0)])

    def test_late_by_the_streams_mark(self):
        inlet = begun("a", "b")
        hand(inlet, "b", ("row", 4, "x", 1), ("row", 5, "x", 2), ("rest",))
        self.assertEqual(hand(inlet, "a", ("mark", 5)), [("done", [], 5)])
        self.assertEqual(inlet.standing(), [(("b", 1), (5, "x", 2))])
        late = hand(inlet, "b", ("row", 4, "x", 3), ("amend", 0, 9, "x", 3), ("drop", 0), ("amend", 1, 4, "x", 3))
        self.assertEqual(late, [("late", [], 5)] * 4)
        self.assertEqual(inlet.kept(), (
            5, [("a", 1, 5, "awake"), ("b", 7, 0, "resting")], [(("b", 1), 5, "x", 2)], 4))
        self.assertEqual(hand(inlet, "b", ("amend", 1, 5, "y", 3)), [("done", [(("b", 1), (5, "y", 3))], 5)])

    def test_the_bounds_of_letters(self):
        inlet = begun("a")
        told = hand(
            inlet, "a", ("row", 10 ** 9, "abcdefgh", 10 ** 60 - 1), ("amend", 0, 10 ** 9, "a", 1 - 10 ** 60),
            ("drop", 10 ** 9), ("mark", 10 ** 9))
        self.assertEqual([word for word, _, _ in told], ["done", "done", "late", "done"])
        self.assertEqual(inlet.standing(), [(("a", 0), (10 ** 9, "a", 1 - 10 ** 60))])


class MarksTest(unittest.TestCase):
    def test_the_stream_waits_for_the_least_mark_of_those_awake(self):
        inlet = begun("b", "a")
        self.assertEqual(inlet.held_by(), ["a", "b"])
        self.assertEqual(hand(inlet, "a", ("mark", 7)), [("done", [], 0)])
        self.assertEqual(inlet.held_by(), ["b"])
        self.assertEqual(hand(inlet, "b", ("mark", 5), ("mark", 5), ("mark", 9)), [
            ("done", [], 5), ("done", [], 5), ("done", [], 7)])
        self.assertEqual(inlet.held_by(), ["a"])
        self.assertEqual(hand(inlet, "a", ("rest",)), [("done", [], 9)])
        self.assertEqual(inlet.held_by(), ["b"])

    def test_a_wake_below_the_streams_mark(self):
        inlet = begun("a", "b")
        hand(inlet, "a", ("mark", 3), ("rest",))
        self.assertEqual(hand(inlet, "b", ("mark", 9)), [("done", [], 9)])
        self.assertEqual(hand(inlet, "a", ("wake",)), [("done", [], 9)])
        self.assertEqual(inlet.held_by(), ["a", "b"])
        self.assertEqual(hand(inlet, "b", ("mark", 12)), [("done", [], 9)])
        self.assertEqual(hand(inlet, "a", ("mark", 4), ("mark", 10)), [("done", [], 9), ("done", [], 10)])
        self.assertEqual(inlet.held_by(), ["a"])

    def test_letters_to_a_road_that_rests(self):
        inlet = begun("a", "b")
        self.assertEqual(hand(inlet, "a", ("rest",), ("rest",), ("row", 3, "x", 1), ("mark", 2)), [
            ("done", [], 0), ("done", [], 0), ("done", [(("a", 2), (3, "x", 1))], 0), ("done", [], 0)])
        self.assertEqual(inlet.kept()[1], [("a", 4, 2, "resting"), ("b", 0, 0, "awake")])
        with self.assertRaises(BackMark):
            hand(inlet, "a", ("mark", 1))
        self.assertEqual(hand(inlet, "a", ("row", 1, "x", 1)), [("late", [], 0)])
        self.assertEqual(hand(inlet, "a", ("wake",), ("wake",)), [("done", [], 0)] * 2)
        self.assertEqual(inlet.kept()[1][0], ("a", 7, 2, "awake"))

    def test_all_rest_some_rest_and_all_ended(self):
        inlet = begun("a", "b")
        hand(inlet, "a", ("row", 8, "x", 1), ("mark", 3))
        hand(inlet, "b", ("mark", 5))
        self.assertEqual(hand(inlet, "a", ("rest",)), [("done", [], 5)])
        self.assertEqual(hand(inlet, "b", ("rest",)), [("done", [], 5)])
        self.assertEqual(inlet.held_by(), [])
        self.assertEqual(hand(inlet, "a", ("mark", 9)), [("done", [], 5)])
        self.assertEqual(hand(inlet, "a", ("end",)), [("done", [], 5)])
        self.assertEqual(inlet.standing(), [(("a", 0), (8, "x", 1))])
        self.assertEqual(hand(inlet, "b", ("wake",), ("mark", 6)), [("done", [], 5), ("done", [], 6)])
        self.assertEqual(hand(inlet, "b", ("end",)), [("done", [], END)])
        self.assertEqual(inlet.kept(), (END, [("a", 5, 9, "ended"), ("b", 5, 6, "ended")], [], 0))
        self.assertEqual(inlet.held_by(), [])

    def test_a_road_that_ends_holds_the_stream_no_more(self):
        inlet = begun("a", "b")
        hand(inlet, "a", ("mark", 8))
        self.assertEqual(hand(inlet, "b", ("end",)), [("done", [], 8)])
        self.assertEqual(inlet.kept()[1][1], ("b", 1, 0, "ended"))
        self.assertEqual(hand(inlet, "a", ("rest",), ("end",)), [("done", [], 8), ("done", [], END)])

    def test_roads_begun_late(self):
        inlet = begun("b")
        hand(inlet, "b", ("row", 7, "x", 1), ("mark", 6))
        self.assertIsNone(inlet.begin("a"))
        self.assertEqual(inlet.kept(), (6, [("a", 0, 0, "awake"), ("b", 2, 6, "awake")], [(("b", 0), 7, "x", 1)], 0))
        self.assertEqual(inlet.held_by(), ["a", "b"])
        self.assertEqual(hand(inlet, "b", ("mark", 9)), [("done", [], 6)])
        self.assertEqual(inlet.held_by(), ["a"])
        self.assertEqual(hand(inlet, "a", ("row", 5, "x", 1), ("row", 6, "x", 1)), [
            ("late", [], 6), ("done", [(("a", 1), (6, "x", 1))], 6)])
        self.assertEqual(hand(inlet, "a", ("mark", 2), ("mark", 8)), [("done", [], 6), ("done", [], 8)])

    def test_an_inlet_without_roads(self):
        inlet = Inlet()
        self.assertEqual(inlet.kept(), (0, [], [], 0))
        self.assertEqual((inlet.held_by(), inlet.lates(), inlet.standing()), ([], 0, []))


class RefusalsTest(unittest.TestCase):
    def test_roads_not_begun(self):
        inlet = begun("a")
        for ask in (lambda: inlet.due("b"), lambda: inlet.letter("b", 0, ("rest",)), lambda: inlet.letter("b", 5, ("end",))):
            with self.assertRaises(NoRoad) as caught:
                ask()
            self.assertEqual(caught.exception.name, "b")

    def test_roads_begun_twice_and_behind_the_end(self):
        inlet = begun("a")
        with self.assertRaises(Taken) as caught:
            inlet.begin("a")
        self.assertEqual(caught.exception.name, "a")
        hand(inlet, "a", ("end",))
        kept = inlet.kept()
        with self.assertRaises(Taken):
            inlet.begin("a")
        with self.assertRaises(Ended):
            inlet.begin("b")
        self.assertEqual(inlet.kept(), kept)

    def test_behind_an_end_and_which_is_told_first(self):
        inlet = begun("a", "b")
        hand(inlet, "a", ("mark", 5), ("end",))
        kept = inlet.kept()
        for letter in (("row", 9, "x", 1), ("mark", 2), ("wake",), ("rest",), ("end",), ("drop", 0), ("row", 0, "x", 1)):
            with self.assertRaises(Ended):
                inlet.letter("a", 2, letter)
            self.assertEqual(inlet.letter("a", 1, letter), ("double", [], 0))
            with self.assertRaises(Gap) as caught:
                inlet.letter("a", 3, letter)
            self.assertEqual(caught.exception.wanted, 2)
        self.assertEqual(inlet.kept(), kept)

    def test_a_mark_below_the_roads_own(self):
        inlet = begun("a", "b")
        hand(inlet, "a", ("mark", 5))
        kept = inlet.kept()
        with self.assertRaises(BackMark):
            inlet.letter("a", 1, ("mark", 4))
        with self.assertRaises(Gap):
            inlet.letter("a", 2, ("mark", 4))
        self.assertEqual(inlet.letter("a", 0, ("mark", 4)), ("double", [], 0))
        self.assertEqual(inlet.kept(), kept)
        self.assertEqual(inlet.letter("a", 1, ("mark", 5)), ("done", [], 0))


if __name__ == "__main__":
    unittest.main()
