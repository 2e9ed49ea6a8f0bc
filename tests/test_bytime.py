"""Points 3 to 5, 15 to 17, 19 and 20 of the step ByTime."""

import unittest

import plainsums
import steplaw
from test_hops import starts_by_hand, windows_by_hand
from weirmark.bytime import ByTime
from weirmark.errors import BackMark, Late, NotLoose
from weirmark.extremes import Least, Unlike
from weirmark.counts import Count, Last, Total
from weirmark.rows import END, in_order
from weirmark.runs import answer, run, unlike_at
from weirmark.sumwords import sum_of

SHAPES = ((3, 3), (7, 2), (2, 3), (1, 1))


def keep_of(size, hop, word):
    """What point 20 says is kept, told by the rows that stand and the mark alone."""
    def keep(standings, marks):
        rows = in_order(standings[0])
        fixed = [row for _, row in rows if row[0] < marks[0]]
        parts = {}
        for time, key, _ in fixed:
            for start in starts_by_hand(size, hop, time):
                if start + size > marks[0]:
                    values = [row[2] for row in fixed if row[1] == key and start <= row[0] < start + size]
                    parts[(key, start)] = values
        entries = []
        for tag, (time, key, value) in rows:
            spots = [(key, start) for start in starts_by_hand(size, hop, time)]
            if time >= marks[0] and any(plainsums.weighs(word, parts.get(spot, []), value) for spot in spots):
                entries.append((tag, time, key, plainsums.trimmed(word, [], value)))
        entries.sort(key=lambda entry: steplaw.id_key(entry[0]))
        shown = [(key, start, plainsums.part_of(word, values)) for (key, start), values in sorted(parts.items())]
        return (marks[0], shown, entries)
    return keep


def out_of(size, hop):
    """One less than the least end of a window above the mark."""
    def out(standings, marks):
        end = marks[0] // hop * hop + hop + size
        while end - hop > marks[0]:
            end -= hop
        return min(END, end - 1)
    return out


def making(size, hop, word, values=(-1, 0, 1, 2), longest=14):
    return steplaw.Making(
        lambda: ByTime(size, hop, sum_of(word)), lambda standings: windows_by_hand(standings[0], size, hop, word),
        values, longest=longest, keep=keep_of(size, hop, word), out=out_of(size, hop))


class LawTest(unittest.TestCase):
    def test_what_every_step_promises(self):
        for word in plainsums.WORDS:
            for size, hop in SHAPES:
                with self.subTest(word=word, size=size, hop=hop):
                    steplaw.check_all(self, making(size, hop, word), seeds=14)

    def test_sixty_hops(self):
        for word in plainsums.WORDS:
            with self.subTest(word=word):
                steplaw.check_deeds(self, making(60, 1, word, longest=70), seeds=4)
                steplaw.check_asking(self, making(60, 1, word, longest=70), seeds=2)
                steplaw.check_same_in_the_end(self, making(60, 1, word, longest=70), seeds=2)

    def test_pairs_that_differ_by_little(self):
        deeds = steplaw.near_deeds((1, ("a", 0)), (0, 1, 3), "ab", (0, 1, -1))
        one_key = steplaw.near_deeds((-1, ("a", 0)), (0, 1, 2, 3), "a", (0, 1, 2))
        for word in plainsums.WORDS:
            for size, hop in ((3, 3), (4, 2), (2, 3)):
                with self.subTest(word=word, size=size, hop=hop):
                    steplaw.check_near_pairs(self, making(size, hop, word), deeds, pairs=120)
                    steplaw.check_near_pairs(self, making(size, hop, word), one_key, pairs=120)


class ByTimeTest(unittest.TestCase):
    def test_the_example_of_point_20(self):
        step = ByTime(10, 5, Total())
        self.assertEqual(step.put(1, (3, "a", 4)), [(("a", -5), None, (4, "a", 4)), (("a", 0), None, (9, "a", 4))])
        self.assertEqual(step.put(2, (12, "a", 5)), [(("a", 5), None, (14, "a", 5)), (("a", 10), None, (19, "a", 5))])
        self.assertEqual(step.mark(8), (9, [(("a", -5), (4, "a", 4))]))
        self.assertEqual(step.kept(), (8, [("a", 0, 4)], [(2, 12, "a", 5)]))
        self.assertEqual(step.loose(), [
            (("a", 0), (9, "a", 4)), (("a", 5), (14, "a", 5)), (("a", 10), (19, "a", 5))])

    def test_rows_come_go_and_change(self):
        step = ByTime(10, 10, Total())
        self.assertEqual(step.put(1, (3, "a", 4)), [(("a", 0), None, (9, "a", 4))])
        self.assertEqual(step.put(2, (9, "a", 5)), [(("a", 0), (9, "a", 4), (9, "a", 9))])
        self.assertEqual(step.put(3, (9, "a", 0)), [])
        self.assertEqual(step.put(2, (10, "b", 5)), [
            (("a", 0), (9, "a", 9), (9, "a", 4)), (("b", 10), None, (19, "b", 5))])
        self.assertEqual(step.put(2, (11, "b", 5)), [])
        self.assertEqual(step.put(1, None), [(("a", 0), (9, "a", 4), (9, "a", 0))])
        self.assertEqual(step.put(3, None), [(("a", 0), (9, "a", 0), None)])
        self.assertEqual(step.put(3, None), [])

    def test_a_mark_at_a_windows_end_one_below_and_one_above(self):
        for at, sure in ((9, []), (10, [(("a", 0), (9, "a", 4))]), (11, [(("a", 0), (9, "a", 4))])):
            step = ByTime(10, 5, Total())
            step.mark(5)
            step.put(1, (6, "a", 4))
            told = step.mark(at)
            self.assertEqual(told, (9 if at == 9 else 14, sure))
            self.assertEqual(step.kept()[1], [("a", 0, 4), ("a", 5, 4)] if at == 9 else [("a", 5, 4)])
            self.assertEqual(step.mark(at), (told[0], []))

    def test_sure_rows_in_true_order(self):
        step = ByTime(10, 5, Count())
        for tag, time, key in ((1, 12, "b"), (2, 2, "b"), (3, 12, "a"), (4, 3, "a")):
            step.put(tag, (time, key, 0))
        self.assertEqual([tag for tag, _ in step.mark(END)[1]], [
            ("a", -5), ("b", -5), ("a", 0), ("b", 0), ("a", 5), ("b", 5), ("a", 10), ("b", 10)])

    def test_the_end(self):
        for word in plainsums.WORDS:
            step = ByTime(10, 5, sum_of(word))
            step.put(1, (10 ** 10, "a", 1))
            step.mark(10 ** 10 + 1)
            step.put(2, (10 ** 10 + 4, "b", 1))
            out, sure = step.mark(END)
            self.assertEqual((out, len(sure)), (END, 4))
            self.assertEqual((step.kept(), step.loose(), step.touching()), ((END, [], []), [], None))
            self.assertEqual(step.mark(END), (END, []))
            with self.assertRaises(Late):
                step.put(1, (10 ** 11, "a", 1))
            self.assertEqual(step.put(1, None), [])

    def test_out_mark_is_END_at_most(self):
        step = ByTime(10 ** 6, 10 ** 6, Count())
        self.assertEqual(step.mark(END - 10 ** 6 - 1), (END - 10 ** 6 - 1, []))
        self.assertEqual(step.mark(END - 10 ** 6), (END - 1, []))
        self.assertEqual(step.mark(END - 1), (END - 1, []))
        self.assertEqual(step.mark(END), (END, []))
        step = ByTime(7, 10 ** 6, Count())
        self.assertEqual(step.mark(END - 1)[0], END)
        self.assertIsNone(step.touching())

    def test_a_row_in_no_window_is_not_kept(self):
        step = ByTime(2, 3, Total())
        self.assertEqual(step.put(1, (5, "a", 4)), [])
        self.assertEqual(step.kept(), (0, [], []))
        step.put(1, (4, "a", 4))
        self.assertEqual(step.put(1, (5, "a", 4)), [(("a", 3), (4, "a", 4), None)])
        self.assertEqual(step.kept(), (0, [], []))
        self.assertEqual(step.mark(2), (4, []))

    def test_rows_that_weigh_in_none_of_their_windows_with_each_sum(self):
        # The window from 0 on has the fixed row 2; 7 lies in it alone.
        cases = {
            "count": (False, 0), "total": (True, 0), "least": (True, 2), "greatest": (True, 2), "last": (False, 2),
            "unlike": (True, 2),
        }
        for word, (is_nothing, value) in cases.items():
            step = ByTime(10, 10, sum_of(word))
            step.put(1, (3, "a", 2))
            step.put(2, (7, "a", value))
            before = step.kept()
            self.assertEqual(len(before[2]), 2)
            step.mark(4)
            kept = [] if is_nothing else [(2, 7, "a", None if word == "count" else value)]
            self.assertEqual(step.kept()[2], kept, word)
            step.put(3, (8, "a", value))
            self.assertEqual([entry[0] for entry in step.kept()[2]], [] if is_nothing else [2, 3], word)
            # In another window nothing is fixed, so there it weighs.
            step.put(3, (12, "a", value))
            self.assertIn((3, 12, "a", None if word == "count" else value), step.kept()[2])
            # Of another key nothing is fixed.
            step.put(3, (8, "b", value))
            self.assertIn((3, 8, "b", None if word == "count" else value), step.kept()[2])

    def test_a_row_that_weighs_in_one_of_two_windows_is_kept(self):
        step = ByTime(10, 5, Least())
        step.put(1, (3, "a", 2))
        step.mark(4)
        self.assertEqual(step.put(2, (7, "a", 5)), [(("a", 5), None, (14, "a", 5))])
        self.assertEqual(step.kept(), (4, [("a", -5, 2), ("a", 0, 2)], [(2, 7, "a", 5)]))
        step.put(3, (6, "a", 5))
        step.mark(7)
        self.assertEqual(step.kept(), (7, [("a", 0, 2), ("a", 5, 5)], []))

    def test_a_row_that_no_more_weighs_is_as_none(self):
        step = ByTime(10, 10, Least())
        step.put(1, (3, "a", 2))
        step.put(2, (7, "a", 1))
        step.mark(4)
        self.assertEqual(step.put(2, (7, "a", 3)), [(("a", 0), (9, "a", 1), (9, "a", 2))])
        self.assertEqual(step.kept(), (4, [("a", 0, 2)], []))
        self.assertEqual(step.put(2, None), [])

    def test_values_of_counted_rows_are_not_kept(self):
        step = ByTime(10, 10, Count())
        step.put(1, (3, "a", 2))
        self.assertEqual(step.put(1, (3, "a", 99)), [])
        self.assertEqual(step.kept(), (0, [], [(1, 3, "a", None)]))
        step.mark(4)
        self.assertEqual(step.kept(), (4, [("a", 0, 1)], []))

    def test_rows_of_one_time_under_several_ids(self):
        step = ByTime(10, 10, Last())
        self.assertEqual(step.put(("a", 1), (5, "a", 1)), [(("a", 0), None, (9, "a", 1))])
        self.assertEqual(step.put(9, (5, "a", 2)), [])
        self.assertEqual(step.put(-1, (5, "a", 3)), [])
        self.assertEqual(step.put(("b", 0), (5, "a", 4)), [(("a", 0), (9, "a", 1), (9, "a", 4))])
        self.assertEqual(step.mark(6), (9, []))
        self.assertEqual(step.kept(), (6, [("a", 0, 4)], []))

    def test_parts_of_unlike_values(self):
        step = ByTime(10, 5, Unlike())
        for tag, value in enumerate((5, -3, 5, 0)):
            step.put(tag, (6, "a", value))
        step.mark(7)
        self.assertEqual(step.kept(), (7, [("a", 0, (-3, 0, 5)), ("a", 5, (-3, 0, 5))], []))

    def test_as_many_parts_a_key_as_windows_are_not_sure(self):
        for size, hop in SHAPES + ((60, 1), (10, 5), (9, 5), (11, 5)):
            step = ByTime(size, hop, Count())
            most = 0
            for at in range(130):
                step.put(at, (at, "a", 0))
                step.mark(at + 1)
                most = max(most, len(step.kept()[1]))
            self.assertLessEqual(most, (size - 1) // hop + 1)

    def test_late_puts_and_marks_told_back(self):
        step = ByTime(10, 5, Total())
        step.put(1, (7, "a", 4))
        step.put(2, (3, "a", 4))
        step.mark(5)
        kept = step.kept()
        for tag in (1, 2, 3):
            with self.assertRaises(Late):
                step.put(tag, (4, "a", 1))
        for at in (4, 0):
            with self.assertRaises(BackMark):
                step.mark(at)
        self.assertEqual(step.kept(), kept)
        self.assertEqual(step.put(3, (5, "a", 1))[0], (("a", 0), (9, "a", 8), (9, "a", 9)))
        self.assertEqual([answer(step, deed) for deed in (("put", 3, (4, "a", 1), 0), ("mark", 4, 0))], [
            ("late",), ("back",)])

    def test_an_id_whose_row_is_fixed_is_as_a_new_one(self):
        step = ByTime(10, 10, Total())
        step.put(1, (2, "a", 1))
        step.mark(3)
        self.assertEqual(step.put(1, None), [])
        self.assertEqual(step.put(1, (3, "a", 4)), [(("a", 0), (9, "a", 1), (9, "a", 5))])
        self.assertEqual(step.kept(), (3, [("a", 0, 1)], [(1, 3, "a", 4)]))

    def test_ids_that_no_loose_row_has(self):
        step = ByTime(10, 5, Total())
        step.put(1, (3, "a", 4))
        step.mark(5)
        for tag in (1, ("a", -5), ("a", 5), ("b", 0), ("a", 1), (0, 0)):
            with self.assertRaises(NotLoose):
                step.shaking(tag)
        self.assertEqual(run(step, step.shaking(("a", 0)))[-1][1][0][0], ("a", 0))

    def test_apart_from_either_side_where_parts_count_alike(self):
        steps = []
        for value in (1, 2):
            step = ByTime(10, 10, Unlike())
            step.put(1, (2, "a", value))
            step.mark(3)
            steps.append(step)
        for one, other in (steps, steps[::-1]):
            steplaw.check_apart(self, making(10, 10, "unlike"), one, other)
            self.assertIsNone(unlike_at(one, other, [("mark", END, 0)]))

    def test_apart_where_the_times_alone_are_unlike(self):
        for word in plainsums.WORDS:
            steps = []
            for time in (2, 7):
                step = ByTime(10, 10, sum_of(word))
                step.put(("a", 1), (time, "a", 5))
                steps.append(step)
            for one, other in (steps, steps[::-1]):
                steplaw.check_apart(self, making(10, 10, word), one, other)

    def test_apart_where_the_times_alone_are_unlike_behind_a_part(self):
        for word in plainsums.WORDS:
            for tag in (1, ("a", 1)):
                steps = []
                for time in (3, 7):
                    step = ByTime(10, 10, sum_of(word))
                    step.put(0, (2, "a", 5))
                    step.mark(3)
                    step.put(tag, (time, "a", {"least": 4, "greatest": 6, "unlike": 6}.get(word, 5)))
                    steps.append(step)
                for one, other in (steps, steps[::-1]):
                    steplaw.check_apart(self, making(10, 10, word), one, other)

    def test_apart_where_values_count_alike(self):
        for fixed in ([], [("a", 0, (1, 2))], [("a", 0, (5, 6))]):
            steps = []
            for value in (7, 9, 12):
                step = ByTime(10, 10, Unlike())
                step.lay((3, fixed, [(-1, 4, "a", value)]))
                steps.append(step)
            for one in steps:
                for other in steps:
                    steplaw.check_apart(self, making(10, 10, "unlike"), one, other)

    def test_apart_by_an_id_that_neither_keeps(self):
        step = ByTime(10, 10, Last())
        step.lay((3, [("a", 0, 5)], [(-1, 4, "a", 5)]))
        other = ByTime(10, 10, Last())
        other.lay((3, [("a", 0, 5)], []))
        for one, two in ((step, other), (other, step)):
            steplaw.check_apart(self, making(10, 10, "last"), one, two)

    def test_shaking_finds_a_value_that_is_new_to_the_part(self):
        for values in ((1, 3), (0, 1, 3, 5), (-1, 1), (0, 1, 2), (1, 2, 3), (0, 2), (7,), (0, 1, 2, 4, 6)):
            step = ByTime(10, 10, Unlike())
            for tag, value in enumerate(values):
                step.put(tag, (2, "a", value))
            step.mark(3)
            steplaw.check_shaking(self, making(10, 10, "unlike"), step)

    def test_shaking_of_fixed_rows_alone_with_each_sum(self):
        for word in plainsums.WORDS:
            for value in (-2, -1, 0, 1, 2, 10 ** 60 - 1, 1 - 10 ** 60):
                step = ByTime(10, 5, sum_of(word))
                step.put(1, (2, "a", value))
                step.mark(3)
                steplaw.check_shaking(self, making(10, 5, word), step)

    def test_the_bounds_of_point_5(self):
        for word in plainsums.WORDS:
            step = ByTime(60, 1, sum_of(word))
            for tag in range(150):
                step.put(tag, (10 ** 10 - tag % 80, "abcdefgh"[: tag % 3 + 1], 10 ** 60 - 1 - tag % 7))
            step.mark(10 ** 10 - 40)
            other = step.twin()
            other.put(75, None)
            shape = making(60, 1, word)
            steplaw.check_touching(self, shape, step)
            for one, two in ((step, other), (other, step), (step, step.anew())):
                steplaw.check_apart(self, shape, one, two)
            tag = step.loose()[-1][0]
            self.assertIn(tag, [change[0] for change in run(step, step.shaking(tag))[-1][1]])

    def test_the_greatest_size_and_hop(self):
        shape = making(10 ** 6, 10 ** 6, "total")
        step = ByTime(10 ** 6, 10 ** 6, Total())
        step.put(1, (10 ** 10, "a", 10 ** 60 - 1))
        step.mark(10 ** 10)
        self.assertEqual(step.out_mark(), 10 ** 10 + 10 ** 6 - 1)
        steplaw.check_touching(self, shape, step)
        steplaw.check_shaking(self, shape, step)
        steplaw.check_apart(self, shape, step, step.anew())

    def test_sums_are_handed_on_to_anew_and_twin(self):
        for word in plainsums.WORDS:
            step = ByTime(4, 2, sum_of(word))
            for tag, value in ((1, 3), (2, 1), (3, 1), (4, 2)):
                step.put(tag, (1, "a", value))
            for other in (step.anew(), step.twin()):
                other.lay(step.kept())
                self.assertEqual(other.loose(), step.loose())
                self.assertEqual(other.out_mark(), step.out_mark())


if __name__ == "__main__":
    unittest.main()
