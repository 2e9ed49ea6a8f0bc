"""Points 3 to 5 and 15 to 18 of the step Both."""

import unittest

import steplaw
from weirmark.both import Both
from weirmark.errors import BackMark, Late, NotLoose
from weirmark.rows import END
from weirmark.runs import answer, first_apart, run, unlike_at


def of_both(standings):
    return {(side, tag): row for side in (0, 1) for tag, row in standings[side].items()}


def keep_of(standings, marks):
    rows = []
    for side in (0, 1):
        tags = sorted((tag for tag, row in standings[side].items() if row[0] >= marks[side]), key=steplaw.id_key)
        rows.append([(tag,) + standings[side][tag] for tag in tags])
    return (marks[0], marks[1], rows[0], rows[1])


MAKING = steplaw.Making(
    Both, of_both, (-1, 0, 1, 10 ** 60 - 1), sides=2, keep=keep_of, out=lambda standings, marks: min(marks))


class LawTest(unittest.TestCase):
    def test_what_every_step_promises(self):
        steplaw.check_all(self, MAKING, seeds=30)

    def test_pairs_that_differ_by_little(self):
        steplaw.check_near_pairs(self, MAKING, steplaw.near_deeds((1, ("a", 0)), (0, 2), "ab", (0, 1), sides=2))


class BothTest(unittest.TestCase):
    def test_rows_of_both_sides_under_the_ids_of_their_sides(self):
        step = Both()
        self.assertEqual(step.put(1, (5, "a", 7)), [((0, 1), None, (5, "a", 7))])
        self.assertEqual(step.put(1, (4, "b", 8), 1), [((1, 1), None, (4, "b", 8))])
        self.assertEqual(step.put(("c", 2), (5, "a", 7), side=1), [((1, ("c", 2)), None, (5, "a", 7))])
        self.assertEqual(step.put(1, (6, "a", 7), side=0), [((0, 1), (5, "a", 7), (6, "a", 7))])
        self.assertEqual(step.put(1, (6, "a", 7)), [])
        self.assertEqual(step.put(1, None, 1), [((1, 1), (4, "b", 8), None)])
        self.assertEqual(step.put(1, None, 1), [])
        self.assertEqual(step.kept(), (0, 0, [(1, 6, "a", 7)], [(("c", 2), 5, "a", 7)]))
        self.assertEqual(step.loose(), [((1, ("c", 2)), (5, "a", 7)), ((0, 1), (6, "a", 7))])

    def test_true_order_goes_by_the_side_where_times_are_alike(self):
        step = Both()
        for tag, side in ((3, 1), (9, 0), (-4, 1), (("a", 1), 0), (0, 0)):
            step.put(tag, (2, "a", 0), side)
        self.assertEqual([tag for tag, _ in step.loose()], [(0, 0), (0, 9), (0, ("a", 1)), (1, -4), (1, 3)])
        self.assertEqual([entry[0] for entry in step.kept()[2]], [0, 9, ("a", 1)])
        self.assertEqual([entry[0] for entry in step.kept()[3]], [-4, 3])
        self.assertEqual([tag for tag, _ in step.mark(3, 0)[1]], [(0, 0), (0, 9), (0, ("a", 1))])

    def test_a_row_is_sure_by_the_mark_of_its_own_side(self):
        step = Both()
        step.put(1, (5, "a", 7), 0)
        step.put(1, (5, "a", 8), 1)
        self.assertEqual(step.mark(5, 0), (0, []))
        self.assertEqual(step.mark(6, 0), (0, [((0, 1), (5, "a", 7))]))
        self.assertEqual(step.mark(4, side=1), (4, []))
        self.assertEqual(step.loose(), [((1, 1), (5, "a", 8))])
        self.assertEqual(step.mark(9, 1), (6, [((1, 1), (5, "a", 8))]))
        self.assertEqual(step.out_mark(), 6)
        self.assertEqual(step.mark(9, 1), (6, []))

    def test_the_end(self):
        step = Both()
        step.put(1, (5, "a", 7), 0)
        step.put(2, (5, "b", 8), 1)
        self.assertEqual(step.mark(END, 1), (0, [((1, 2), (5, "b", 8))]))
        self.assertEqual(run(step, step.touching())[-1][1][0][2][0], 0)
        self.assertEqual(step.mark(END, 0), (END, [((0, 1), (5, "a", 7))]))
        self.assertEqual(step.kept(), (END, END, [], []))
        self.assertIsNone(step.touching())
        for side in (0, 1):
            with self.assertRaises(Late):
                step.put(1, (10 ** 11, "a", 1), side)
            self.assertEqual(step.put(1, None, side), [])

    def test_late_by_the_mark_of_the_side_alone(self):
        step = Both()
        step.mark(5, 1)
        self.assertEqual(step.put(1, (0, "a", 1), 0), [((0, 1), None, (0, "a", 1))])
        self.assertEqual(step.put(1, (5, "a", 1), 1), [((1, 1), None, (5, "a", 1))])
        kept = step.kept()
        for tag in (1, 2):
            with self.assertRaises(Late):
                step.put(tag, (4, "a", 1), 1)
        with self.assertRaises(BackMark):
            step.mark(4, 1)
        self.assertEqual(step.kept(), kept)
        self.assertEqual(step.mark(4, 0), (4, [((0, 1), (0, "a", 1))]))
        with self.assertRaises(BackMark):
            step.mark(3)
        self.assertEqual([answer(step, deed) for deed in (
            ("put", 1, (3, "a", 0), 0), ("mark", 3, 0), ("mark", 4, 0), ("put", 7, (4, "a", 0), 0),
        )], [("late",), ("back",), ("marked", 4, []), ("told", [((0, 7), None, (4, "a", 0))])])

    def test_an_id_whose_row_is_fixed_is_as_a_new_one(self):
        step = Both()
        step.put(1, (2, "a", 1), 1)
        step.mark(3, 1)
        self.assertEqual(step.put(1, None, 1), [])
        self.assertEqual(step.put(1, (3, "a", 4), 1), [((1, 1), None, (3, "a", 4))])

    def test_ids_that_no_loose_row_has(self):
        step = Both()
        step.put(1, (2, "a", 1), 0)
        step.put(2, (2, "a", 1), 1)
        step.put(3, (0, "a", 1), 0)
        step.mark(1, 0)
        for tag in (1, 2, 3, (0, 2), (1, 1), (0, 3), (2, 1), (-1, 1), ("a", 1), ((0, 1), 1), (0, (0, 1))):
            with self.assertRaises(NotLoose):
                step.shaking(tag)
        for tag in ((0, 1), (1, 2)):
            self.assertEqual(run(step, step.shaking(tag))[-1], ("told", [(tag, (2, "a", 1), None)]))

    def test_apart_from_either_side(self):
        for side in (0, 1):
            one = Both()
            other = Both()
            self.assertIsNone(one.apart(other))
            for deed in (("put", 4, (9, "a", 1), side), ("mark", 3, side), ("mark", END, side)):
                answer(one, deed)
                for first, second in ((one, other), (other, one)):
                    steplaw.check_apart(self, MAKING, first, second)
            other.lay(one.kept())
            self.assertIsNone(one.apart(other))
            self.assertEqual(one.anew().kept(), (0, 0, [], []))

    def test_rows_that_changed_sides_are_told_apart(self):
        one = Both()
        other = Both()
        one.put(1, (5, "a", 7), 0)
        other.put(1, (5, "a", 7), 1)
        for first, second in ((one, other), (other, one)):
            steplaw.check_apart(self, MAKING, first, second)

    def test_the_bounds_of_point_5_and_ids_as_deep_as_can_be(self):
        deep = 0
        for _ in range(7):
            deep = ("a", deep)
        step = Both()
        step.put(deep, (10 ** 10, "abcdefgh", 10 ** 70 - 1), 1)
        step.put(-10 ** 80, (10 ** 10, "a", 1), 1)
        step.mark(10 ** 10, 1)
        step.mark(10 ** 10, 0)
        self.assertEqual(step.loose()[1][0], (1, deep))
        steplaw.check_touching(self, MAKING, step)
        steplaw.check_shaking(self, MAKING, step)
        steplaw.check_apart(self, MAKING, step, Both())
        other = Both()
        other.lay((10 ** 10, 10 ** 10, [], []))
        steplaw.check_apart(self, MAKING, step, other)

    def test_runs_over_it(self):
        one = Both()
        other = Both()
        other.put(1, (5, "a", 7), 1)
        deeds = [("mark", 1, 0), ("put", 1, None, 0), ("put", 1, None, 1), ("mark", 1, 1)]
        self.assertEqual(unlike_at(one, other, deeds), 2)
        self.assertIsNone(unlike_at(one, other, deeds[:2]))
        shorter = [("put", 2, None, 1), ("put", 1, (5, "a", 7), 1)]
        self.assertEqual(first_apart(one, other, [deeds, shorter, deeds[:2]]), shorter)
        self.assertEqual(first_apart(one, other, [deeds]), deeds[:3])
        self.assertIsNone(first_apart(one, other, [deeds[:2], []]))
        self.assertEqual(one.kept(), (0, 0, [], []))


if __name__ == "__main__":
    unittest.main()
