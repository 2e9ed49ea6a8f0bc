"""Points 3 to 5, 15 to 17, 26 and 27 of the step Pairs."""

import unittest

import steplaw
from test_meets import HOWS, near, paired_by_hand
from weirmark.errors import BackMark, Fixed, Late, NotLoose
from weirmark.pairs import Pairs
from weirmark.rows import END
from weirmark.runs import answer, first_apart, run, unlike_at


def asked(how, side):
    return how in ("sum", "less") or how == ("left", "right")[side]


def keep_of(within, how):
    """What point 27 says is kept, told by the rows that stand and the marks alone."""
    def keep(standings, marks):
        kept = []
        for side in (0, 1):
            fixed = [row for row in standings[1 - side].values() if row[0] < marks[1 - side]]
            entries = []
            for tag, row in standings[side].items():
                reaches = row[0] + within >= marks[1 - side]
                if reaches or row[0] >= marks[side] and any(near(row, other, within) for other in fixed):
                    entries.append((tag, row[0], row[1], row[2] if asked(how, side) else None))
            kept.append(sorted(entries, key=lambda entry: steplaw.id_key(entry[0])))
        return (marks[0], marks[1], kept[0], kept[1])
    return keep


def out_of(within):
    def out(standings, marks):
        times = [max(marks)]
        for side in (0, 1):
            reaching = [row[0] for row in standings[side].values() if row[0] + within >= marks[1 - side]]
            times += [max(time, marks[1 - side]) for time in reaching]
        return min(times)
    return out


def making(within, how):
    return steplaw.Making(
        lambda: Pairs(within, how), lambda standings: paired_by_hand(standings[0], standings[1], within, how),
        (-1, 0, 1, 2), sides=2, longest=9, keep=keep_of(within, how), out=out_of(within))


def laid(within, how, kept):
    step = Pairs(within, how)
    step.lay(kept)
    return step


class LawTest(unittest.TestCase):
    def test_what_every_step_promises(self):
        for within in (0, 1, 3):
            for how in HOWS:
                with self.subTest(within=within, how=how):
                    steplaw.check_all(self, making(within, how), seeds=20)

    def test_pairs_that_differ_by_little(self):
        one_id = steplaw.near_deeds((1,), (0, 1, 2, 3), "a", (0, 1), sides=2)
        two_keys = steplaw.near_deeds((1, ("a", 0)), (0, 1, 3), "ab", (0, 1), sides=2)
        for within in (0, 1, 2):
            for how in HOWS:
                with self.subTest(within=within, how=how):
                    steplaw.check_near_pairs(self, making(within, how), one_id, most=500, pairs=300)
                    steplaw.check_near_pairs(self, making(within, how), two_keys, most=300, pairs=200)
                    steplaw.check_near_pairs(self, making(within, how), one_id, most=500, pairs=400, unlike=4)

    def test_fixed_rows_that_are_kept(self):
        for within in (0, 2, 5):
            steplaw.check_fixed(self, making(within, "sum"), 40, (2, 3))


class PairsTest(unittest.TestCase):
    def test_pairs_come_and_go(self):
        step = Pairs(2, "less")
        self.assertEqual(step.put(1, (5, "a", 7)), [])
        self.assertEqual(step.put(1, (7, "a", 10), 1), [((1, 1), None, (7, "a", -3))])
        self.assertEqual(step.put(("c", 2), (3, "a", 1), side=1), [((1, ("c", 2)), None, (5, "a", 6))])
        self.assertEqual(step.put(-4, (5, "a", 0), 0), [
            ((-4, 1), None, (7, "a", -10)), ((-4, ("c", 2)), None, (5, "a", -1))])
        self.assertEqual(step.put(1, (6, "a", 7)), [
            ((1, ("c", 2)), (5, "a", 6), None)])
        self.assertEqual(step.put(1, (8, "a", 8)), [((1, 1), (7, "a", -3), (8, "a", -2))])
        self.assertEqual(step.put(1, (8, "b", 8)), [((1, 1), (8, "a", -2), None)])
        self.assertEqual(step.put(1, (8, "b", 8)), [])
        self.assertEqual(step.put(1, None, 1), [((-4, 1), (7, "a", -10), None)])
        self.assertEqual(step.put(1, None, 1), [])
        self.assertEqual(step.loose(), [((-4, ("c", 2)), (5, "a", -1))])

    def test_a_row_is_sure_where_both_are_fixed(self):
        step = Pairs(2, "sum")
        step.put(1, (5, "a", 7))
        step.put(1, (6, "a", 1), 1)
        self.assertEqual(step.mark(9, 0), (5, []))
        self.assertEqual(step.kept(), (9, 0, [(1, 5, "a", 7)], [(1, 6, "a", 1)]))
        self.assertEqual(step.mark(6, 1), (6, []))
        self.assertEqual(step.kept(), (9, 6, [(1, 5, "a", 7)], [(1, 6, "a", 1)]))
        self.assertEqual(step.mark(7, 1), (7, [((1, 1), (6, "a", 8))]))
        self.assertEqual(step.kept(), (9, 7, [(1, 5, "a", 7)], []))
        self.assertEqual(step.mark(8, side=1), (9, []))
        self.assertEqual(step.kept(), (9, 8, [], []))
        self.assertEqual(step.loose(), [])

    def test_a_row_that_meets_nothing_to_come_is_kept_where_it_is_in_a_pair_with_a_fixed_one(self):
        step = Pairs(2, "left")
        step.put(1, (5, "a", 7), 0)
        step.put(2, (5, "a", 8), 0)
        step.put(3, (5, "b", 8), 0)
        step.put(1, (4, "a", 0), 1)
        self.assertEqual(step.mark(9, 1), (4, []))
        self.assertEqual(step.kept(), (0, 9, [(1, 5, "a", 7), (2, 5, "a", 8)], [(1, 4, "a", None)]))
        self.assertEqual(step.put(2, (7, "a", 8)), [((2, 1), (5, "a", 8), None)])
        self.assertEqual(step.put(3, None), [])
        self.assertEqual(step.kept()[2], [(1, 5, "a", 7), (2, 7, "a", 8)])
        self.assertEqual(step.put(2, (6, "a", 8)), [((2, 1), None, (6, "a", 8))])
        self.assertEqual(step.mark(6, 0), (6, [((1, 1), (5, "a", 7))]))
        self.assertEqual(step.kept(), (6, 9, [(2, 6, "a", 8)], [(1, 4, "a", None)]))
        self.assertEqual(step.mark(7, 0), (9, [((2, 1), (6, "a", 8))]))
        self.assertEqual(step.kept(), (7, 9, [], []))

    def test_values_that_how_does_not_ask(self):
        for how in HOWS:
            step = Pairs(1, how)
            step.put(1, (5, "a", 7), 0)
            step.put(2, (5, "a", 3), 1)
            self.assertEqual(step.kept()[2], [(1, 5, "a", None if how == "right" else 7)])
            self.assertEqual(step.kept()[3], [(2, 5, "a", None if how == "left" else 3)])
            value = {"left": 7, "right": 3, "sum": 10, "less": 4}[how]
            self.assertEqual(step.twin().loose(), [((1, 2), (5, "a", value))])
            other = Pairs(1, how)
            other.put(1, (5, "a", 9), 0)
            other.put(2, (5, "a", 3), 1)
            self.assertEqual(step.apart(other) is None, how == "right")

    def test_kept_at_just_within_of_the_other_mark(self):
        for side in (0, 1):
            step = Pairs(3, "sum")
            step.put(1, (5, "a", 7), side)
            self.assertEqual(step.mark(8, 1 - side), (8, []))
            self.assertEqual(step.kept()[2 + side], [(1, 5, "a", 7)])
            self.assertEqual(step.mark(9, 1 - side), (9, []))
            self.assertEqual(step.kept()[2 + side], [])

    def test_within_0(self):
        step = Pairs(0, "sum")
        step.put(1, (5, "a", 7), 0)
        self.assertEqual(step.put(1, (6, "a", 7), 1), [])
        self.assertEqual(step.put(2, (5, "a", 7), 1), [((1, 2), None, (5, "a", 14))])
        self.assertEqual(step.mark(5, 0), (5, []))
        self.assertEqual(step.mark(6, 1), (5, []))
        self.assertEqual(step.kept(), (5, 6, [(1, 5, "a", 7)], [(1, 6, "a", 7), (2, 5, "a", 7)]))
        self.assertEqual(step.mark(6, 0), (6, [((1, 2), (5, "a", 14))]))
        self.assertEqual(step.kept(), (6, 6, [], [(1, 6, "a", 7)]))

    def test_fixed_and_late(self):
        step = Pairs(5, "sum")
        step.put(1, (3, "a", 7), 0)
        step.put(2, (9, "a", 7), 0)
        step.put(1, (9, "a", 1), 1)
        step.mark(6, 0)
        kept = step.kept()
        for row in (None, (6, "a", 1), (8, "b", 0)):
            with self.assertRaises(Fixed):
                step.put(1, row)
        for tag in (1, 2, 3):
            with self.assertRaises(Late):
                step.put(tag, (5, "a", 1))
        with self.assertRaises(BackMark):
            step.mark(5)
        self.assertEqual(step.kept(), kept)
        self.assertEqual(step.put(1, (0, "a", 1), 1), [((1, 1), None, (3, "a", 8)), ((2, 1), (9, "a", 8), None)])
        self.assertEqual([answer(step, deed) for deed in (
            ("put", 1, None, 0), ("put", 1, (5, "a", 0), 0), ("mark", 5, 0), ("mark", 6, 0))], [
            ("fixed",), ("late",), ("back",), ("marked", 3, [])])

    def test_a_fixed_id_that_is_kept_no_more_is_as_a_new_one(self):
        step = Pairs(1, "sum")
        step.put(1, (3, "a", 7), 0)
        step.put(2, (4, "a", 1), 1)
        step.mark(4, 0)
        step.mark(5, 1)
        self.assertEqual(step.kept(), (4, 5, [], [(2, 4, "a", 1)]))
        self.assertEqual(step.put(1, None, 0), [])
        self.assertEqual(step.put(1, (4, "a", 9), 0), [((1, 2), None, (4, "a", 10))])
        with self.assertRaises(Fixed):
            step.put(2, None, 1)

    def test_the_marks_unlike_and_either_the_greater(self):
        for side in (0, 1):
            step = Pairs(1, "sum")
            step.mark(7, side)
            self.assertEqual(step.out_mark(), 7)
            step.put(1, (3, "a", 0), 1 - side)
            self.assertEqual(step.out_mark(), 7)
            self.assertEqual(step.kept()[3 - side], [])
            step.put(1, (6, "a", 0), 1 - side)
            self.assertEqual(step.out_mark(), 7)
            step.put(2, (9, "a", 0), side)
            self.assertEqual(step.out_mark(), 7)
            step.mark(10, side)
            self.assertEqual(step.out_mark(), 9)
            steplaw.check_touching(self, making(1, "sum"), step)

    def test_the_end_at_one_side_and_at_both(self):
        for side in (0, 1):
            step = Pairs(4, "sum")
            step.put(1, (5, "a", 7), 0)
            step.put(2, (3, "a", 8), 1)
            self.assertEqual(step.mark(END, side), (5 if side == 0 else 3, []))
            self.assertEqual(step.loose(), [((1, 2), (5, "a", 15))])
            steplaw.check_shaking(self, making(4, "sum"), step)
            steplaw.check_touching(self, making(4, "sum"), step)
            for tag in (1, 2, 3):
                with self.assertRaises(Late):
                    step.put(tag, (10 ** 11, "a", 1), side)
            self.assertEqual(step.mark(END, 1 - side), (END, [((1, 2), (5, "a", 15))]))
            self.assertEqual((step.kept(), step.loose(), step.touching()), ((END, END, [], []), [], None))
        self.assertEqual(Pairs(4, "sum").mark(END, 1), (END, []))

    def test_rows_of_one_time_and_the_same_id_at_both_sides(self):
        step = Pairs(0, "right")
        for tag in (("a", 1), 9, -1):
            step.put(tag, (5, "a", 1), 0)
        step.put(9, (5, "a", 2), 1)
        step.put(-1, (5, "a", 3), 1)
        told = [
            ((-1, -1), (5, "a", 3)), ((-1, 9), (5, "a", 2)), ((9, -1), (5, "a", 3)), ((9, 9), (5, "a", 2)),
            ((("a", 1), -1), (5, "a", 3)), ((("a", 1), 9), (5, "a", 2))]
        self.assertEqual(step.loose(), told)
        step.mark(6, 0)
        self.assertEqual(step.mark(6, 1), (6, told))

    def test_ids_that_no_loose_row_has(self):
        step = Pairs(2, "sum")
        step.put(1, (5, "a", 7), 0)
        step.put(2, (5, "a", 8), 0)
        step.put(1, (5, "a", 0), 1)
        step.put(2, (7, "a", 0), 1)
        step.mark(6, 0)
        step.mark(6, 1)
        for tag in (1, 2, (1, 1), (2, 1), (3, 1), (1, 3), ("a", 1), ((1, 1), 2)):
            with self.assertRaises(NotLoose):
                step.shaking(tag)
        self.assertEqual(run(step, step.shaking((1, 2)))[-1], (
            "told", [((1, 2), (7, "a", 7), None), ((2, 2), (7, "a", 8), None)]))

    def test_apart_where_rows_differ_in_one_thing(self):
        # The second and third: neither can meet what comes, they differ in time alone, and the pair's row does not.
        row = (5, "a", 1)
        for marks, ones, others, side in (
            ((0, 0), {1: row}, {1: (5, "a", 2)}, 0), ((0, 9), {1: (4, "a", 1)}, {1: (3, "a", 1)}, 0),
            ((9, 0), {1: (4, "a", 1)}, {1: (3, "a", 1)}, 1), ((0, 9), {1: row}, {}, 0), ((9, 0), {1: row}, {}, 1),
            ((0, 0), {1: row}, {1: (6, "a", 1)}, 1), ((7, 7), {1: row}, {1: (6, "a", 1)}, 0),
            ((0, 0), {1: row}, {1: (5, "b", 1)}, 0), ((7, 7), {1: row}, {1: (5, "b", 1)}, 1),
        ):
            steps = []
            for standing in (ones, others):
                step = Pairs(2, "sum")
                step.put(7, (5, "a", 4), 1 - side)
                for tag, one in standing.items():
                    step.put(tag, one, side)
                step.mark(marks[0], 0)
                step.mark(marks[1], 1)
                steps.append(step)
            self.assertNotEqual(steps[0].kept(), steps[1].kept())
            for one, two in (steps, steps[::-1]):
                steplaw.check_apart(self, making(2, "sum"), one, two)

    def test_apart_puts_nothing_under_the_ids_of_fixed_rows(self):
        for side in (0, 1):
            one = Pairs(2, "sum")
            one.put(-1, (4, "a", 1), side)
            one.mark(5, side)
            other = Pairs(2, "sum")
            other.mark(7, side)
            third = Pairs(2, "sum")
            third.mark(5, side)
            third.put(-1, (6, "a", 1), 1 - side)
            fourth = third.twin()
            fourth.mark(7, 1 - side)
            steps = (one, other, third, fourth)
            for first in steps:
                for second in steps:
                    steplaw.check_apart(self, making(2, "sum"), first, second)

    def test_apart_where_the_values_of_pairs_are_alike(self):
        for side in (0, 1):
            for how, values in (("sum", (1, 4, 2, 3)), ("less", (1, 4, 2, 5))):
                steps = []
                for mine, others in (values[:2], values[2:]):
                    step = Pairs(2, how)
                    step.put(1, (4, "a", mine), side)
                    step.put(1, (4, "a", others), 1 - side)
                    step.mark(9, 1 - side)
                    steps.append(step)
                self.assertEqual(steps[0].loose(), steps[1].loose())
                for one, two in (steps, steps[::-1]):
                    steplaw.check_apart(self, making(2, how), one, two)

    def test_the_bounds_of_point_5_and_ids_as_deep_as_can_be(self):
        deep = 0
        for _ in range(7):
            deep = ("a", deep)
        for how in HOWS:
            step = Pairs(10 ** 6, how)
            step.put(deep, (10 ** 10, "abcdefgh", 10 ** 60 - 1), 1)
            step.put(deep, (10 ** 10 - 10 ** 6, "abcdefgh", 1 - 10 ** 60), 0)
            step.put(-10 ** 80, (10 ** 10, "a", 1), 0)
            step.mark(10 ** 10, 1)
            step.mark(10 ** 10, 0)
            self.assertEqual([tag for tag, _ in step.loose()], [(deep, deep)])
            shape = making(10 ** 6, how)
            steplaw.check_touching(self, shape, step)
            steplaw.check_shaking(self, shape, step)
            for other in (Pairs(10 ** 6, how), laid(10 ** 6, how, (10 ** 10, 10 ** 10, [], []))):
                steplaw.check_apart(self, shape, step, other)
                steplaw.check_apart(self, shape, other, step)

    def test_as_many_rows_as_can_stand(self):
        step = Pairs(3, "less")
        for tag in range(150):
            step.put(tag, (tag, "ab"[tag % 2], tag), tag % 4 // 2)
        step.mark(60, 0)
        step.mark(80, 1)
        other = step.twin()
        other.put(149, None, 0)
        other.put(149, None, 1)
        shape = making(3, "less")
        steplaw.check_touching(self, shape, step)
        steplaw.check_shaking(self, shape, step)
        for one, two in ((step, other), (other, step), (step, step.anew())):
            steplaw.check_apart(self, shape, one, two)

    def test_runs_over_it(self):
        one = Pairs(1, "sum")
        other = Pairs(1, "sum")
        other.put(1, (5, "a", 7), 1)
        deeds = [("mark", 1, 0), ("put", 1, (9, "a", 0), 0), ("put", 2, (4, "a", 0), 0), ("mark", 1, 1)]
        self.assertEqual(unlike_at(one, other, deeds), 2)
        self.assertIsNone(unlike_at(one, other, deeds[:2]))
        shorter = [("mark", 9, 1)]
        self.assertEqual(first_apart(one, other, [deeds, shorter, deeds[:2]]), shorter)
        self.assertEqual(first_apart(one, other, [deeds]), deeds[:3])
        self.assertIsNone(first_apart(one, other, [deeds[:2], []]))
        self.assertEqual(run(other, shorter), [("marked", 5, [])])
        self.assertEqual(one.kept(), (0, 0, [], []))


if __name__ == "__main__":
    unittest.main()
