"""Points 3 to 5, 15 to 17, 21 and 22 of the step BySilence."""

import unittest

import plainsums
import steplaw
from test_stills import stretched_by_hand
from weirmark.bysilence import BySilence
from weirmark.counts import Count, Last, Total
from weirmark.errors import BackMark, Late, NotLoose
from weirmark.extremes import Greatest, Least, Unlike
from weirmark.rows import END, in_order
from weirmark.runs import answer, first_apart, run, unlike_at
from weirmark.sumwords import sum_of

GAPS = (0, 1, 3)


def blocks_of(gap, standing, mark):
    """The dict from a key to the rows of its block."""
    blocks = {}
    for _, row in in_order(standing):
        if row[0] < mark:
            ahead = blocks.get(row[1], [])
            blocks[row[1]] = ahead + [row] if ahead and row[0] - ahead[-1][0] <= gap else [row]
    return {key: rows for key, rows in blocks.items() if rows[-1][0] + gap >= mark}


def keep_of(gap, word):
    """What point 22 says is kept, told by the rows that stand and the mark alone."""
    def keep(standings, marks):
        blocks = blocks_of(gap, standings[0], marks[0])
        shown = [
            (key, rows[0][0], rows[-1][0], plainsums.part_of(word, [row[2] for row in rows]))
            for key, rows in sorted(blocks.items())]
        entries = []
        for tag, (time, key, value) in standings[0].items():
            if time >= marks[0]:
                ahead = blocks.get(key, [])
                near = [row[2] for row in ahead] if ahead and time <= ahead[-1][0] + gap else []
                entries.append((tag, time, key, plainsums.trimmed(word, near, value)))
        return (marks[0], shown, sorted(entries, key=lambda entry: steplaw.id_key(entry[0])))
    return keep


def out_of(gap):
    def out(standings, marks):
        lasts = [rows[-1][0] for rows in blocks_of(gap, standings[0], marks[0]).values()]
        return min([marks[0]] + lasts)
    return out


def making(gap, word, longest=14):
    return steplaw.Making(
        lambda: BySilence(gap, sum_of(word)), lambda standings: stretched_by_hand(standings[0], gap, word),
        (-1, 0, 1, 2), longest=longest, keep=keep_of(gap, word), out=out_of(gap))


class LawTest(unittest.TestCase):
    def test_what_every_step_promises(self):
        for word in plainsums.WORDS:
            for gap in GAPS:
                with self.subTest(word=word, gap=gap):
                    steplaw.check_all(self, making(gap, word, longest=8), seeds=16)

    def test_pairs_that_differ_by_little(self):
        deeds = steplaw.near_deeds((1, ("a", 0)), (0, 1, 3), "ab", (0, 1, -1))
        one_key = steplaw.near_deeds((-1, ("a", 0)), (0, 1, 2, 3), "a", (0, 1, 2))
        for word in plainsums.WORDS:
            for gap in (0, 1, 2):
                with self.subTest(word=word, gap=gap):
                    steplaw.check_near_pairs(self, making(gap, word), deeds, pairs=120)
                    steplaw.check_near_pairs(self, making(gap, word), one_key, pairs=120)


class BySilenceTest(unittest.TestCase):
    def test_stretches_come_join_and_part(self):
        step = BySilence(3, Total())
        self.assertEqual(step.put(1, (5, "a", 1)), [(("a", 5), None, (5, "a", 1))])
        self.assertEqual(step.put(2, (12, "a", 2)), [(("a", 12), None, (12, "a", 2))])
        self.assertEqual(step.put(3, (8, "a", 4)), [(("a", 5), (5, "a", 1), (8, "a", 5))])
        self.assertEqual(step.put(4, (9, "a", 8)), [
            (("a", 5), (8, "a", 5), (12, "a", 15)), (("a", 12), (12, "a", 2), None)])
        self.assertEqual(step.put(5, (9, "b", 9)), [(("b", 9), None, (9, "b", 9))])
        self.assertEqual(step.put(1, None), [(("a", 5), (12, "a", 15), None), (("a", 8), None, (12, "a", 14))])
        self.assertEqual(step.put(4, (9, "b", 8)), [
            (("a", 8), (12, "a", 14), (8, "a", 4)), (("a", 12), None, (12, "a", 2)),
            (("b", 9), (9, "b", 9), (9, "b", 17))])
        self.assertEqual(step.put(9, None), [])

    def test_a_block_whose_last_time_plus_gap_is_the_mark_one_below_and_one_above(self):
        for at in (6, 8, 9):
            step = BySilence(3, Total())
            step.put(1, (4, "a", 1))
            step.put(2, (5, "a", 2))
            self.assertEqual(step.mark(at), (5, []) if at < 9 else (9, [(("a", 4), (5, "a", 3))]))
            self.assertEqual(step.kept(), (at, [("a", 4, 5, 3)] if at < 9 else [], []))
            self.assertEqual(step.loose(), [(("a", 4), (5, "a", 3))] if at < 9 else [])
            self.assertEqual(step.put(3, (at, "a", 4)), [
                (("a", 4), (5, "a", 3), (at, "a", 7)) if at < 9 else (("a", 9), None, (9, "a", 4))])

    def test_rows_at_most_gap_above_a_blocks_last_time_and_one_more(self):
        # Trimmed is what lies so near that nothing can part it from the block.
        for word, value in (("least", 7), ("greatest", 1), ("unlike", 5)):
            step = BySilence(3, sum_of(word))
            step.put(1, (5, "a", 5))
            step.put(2, (8, "a", value))
            step.put(3, (9, "a", value))
            self.assertEqual(step.kept()[2][1:], [(2, 8, "a", value), (3, 9, "a", value)])
            step.mark(6)
            self.assertEqual(step.kept()[2], [(2, 8, "a", None), (3, 9, "a", value)])
            step.put(4, (8, "a", value))
            step.put(5, (8, "b", value))
            step.put(6, (9, "a", value))
            self.assertEqual(step.kept()[2][2:], [(4, 8, "a", None), (5, 8, "b", value), (6, 9, "a", value)])
            # The block goes on to 8, so 9 is near it now.
            step.mark(9)
            self.assertEqual(step.kept()[2], [(3, 9, "a", None), (6, 9, "a", None)])
            self.assertEqual(step.kept()[1][0][:3], ("a", 5, 8))

    def test_what_is_kept_of_values_with_the_other_sums(self):
        for word in ("count", "total", "last"):
            step = BySilence(3, sum_of(word))
            step.put(1, (5, "a", 5))
            step.put(2, (8, "a", 0))
            step.mark(6)
            self.assertEqual(step.kept()[2], [(2, 8, "a", None if word == "count" else 0)])

    def test_a_row_taken_back_parts_what_it_joined(self):
        step = BySilence(3, Least())
        step.put(1, (5, "a", 5))
        step.mark(6)
        step.put(2, (8, "a", 7))
        self.assertEqual(step.put(3, (11, "a", 9)), [(("a", 5), (8, "a", 5), (11, "a", 5))])
        self.assertEqual(step.put(2, None), [
            (("a", 5), (11, "a", 5), (5, "a", 5)), (("a", 11), None, (11, "a", 9))])

    def test_a_new_block_behind_one_that_is_sure(self):
        step = BySilence(2, Total())
        for tag, time in enumerate((1, 3, 6, 8, 11)):
            step.put(tag, (time, "a", 10 ** tag))
        self.assertEqual(step.mark(9), (8, [(("a", 1), (3, "a", 11))]))
        self.assertEqual(step.kept(), (9, [("a", 6, 8, 1100)], [(4, 11, "a", 10000)]))
        self.assertEqual(step.mark(11), (11, [(("a", 6), (8, "a", 1100))]))
        self.assertEqual(step.kept(), (11, [], [(4, 11, "a", 10000)]))

    def test_gap_0_keeps_no_blocks(self):
        for word in plainsums.WORDS:
            step = BySilence(0, sum_of(word))
            step.put(1, (4, "a", 1))
            step.put(2, (4, "a", 2))
            step.put(3, (5, "a", 3))
            out, sure = step.mark(5)
            self.assertEqual((out, [tag for tag, _ in sure]), (5, [("a", 4)]))
            self.assertEqual(step.kept(), (5, [], [(3, 5, "a", None if word == "count" else 3)]))

    def test_out_mark_is_the_least_of_the_mark_and_the_blocks_last_times(self):
        step = BySilence(5, Count())
        for tag, (time, key) in enumerate(((4, "a"), (2, "b"), (3, "c"), (9, "d"))):
            step.put(tag, (time, key, 0))
        self.assertEqual(step.mark(6)[0], 2)
        self.assertEqual(step.mark(7)[0], 2)
        self.assertEqual(step.mark(8), (3, [(("b", 2), (2, "b", 1))]))
        self.assertEqual(step.mark(10), (9, [(("c", 3), (3, "c", 1)), (("a", 4), (4, "a", 1))]))
        self.assertEqual(step.mark(15), (15, [(("d", 9), (9, "d", 1))]))

    def test_touching_where_the_least_block_goes_on_in_rows(self):
        step = BySilence(5, Count())
        step.put(1, (4, "a", 0))
        step.mark(6)
        step.put(2, (8, "a", 0))
        step.put(3, (8, "a", 0))
        step.put(4, (12, "a", 0))
        self.assertEqual(step.out_mark(), 4)
        steplaw.check_touching(self, making(5, "count"), step)
        steplaw.check_shaking(self, making(5, "count"), step)

    def test_the_end(self):
        for word in plainsums.WORDS:
            step = BySilence(10 ** 6, sum_of(word))
            step.put(1, (10 ** 10, "a", 1))
            step.mark(10 ** 10 + 1)
            step.put(2, (10 ** 10 + 4, "b", 1))
            out, sure = step.mark(END)
            self.assertEqual((out, [tag for tag, _ in sure]), (END, [("a", 10 ** 10), ("b", 10 ** 10 + 4)]))
            self.assertEqual((step.kept(), step.loose(), step.touching()), ((END, [], []), [], None))
            with self.assertRaises(Late):
                step.put(1, (10 ** 11, "a", 1))
            self.assertEqual(step.put(1, None), [])

    def test_sure_rows_in_true_order(self):
        step = BySilence(1, Last())
        for tag, (time, key) in enumerate(((7, "b"), (7, "a"), (5, "a"), (1, "c"))):
            step.put(tag, (time, key, tag))
        self.assertEqual(step.mark(20)[1], [
            (("c", 1), (1, "c", 3)), (("a", 5), (5, "a", 2)), (("a", 7), (7, "a", 1)), (("b", 7), (7, "b", 0))])

    def test_rows_of_one_time_under_several_ids(self):
        step = BySilence(2, Last())
        for tag, value in ((("a", 1), 1), (9, 2), (-1, 3), (("b", 0), 4)):
            step.put(tag, (5, "a", value))
        self.assertEqual(step.loose(), [(("a", 5), (5, "a", 4))])
        step.mark(6)
        self.assertEqual(step.kept(), (6, [("a", 5, 5, 4)], []))

    def test_late_puts_and_marks_told_back(self):
        step = BySilence(3, Total())
        step.put(1, (7, "a", 4))
        step.put(2, (3, "a", 4))
        step.mark(5)
        kept = step.kept()
        for tag in (1, 2, 3):
            with self.assertRaises(Late):
                step.put(tag, (4, "a", 1))
        for at in (4, 0):
            with self.assertRaises(BackMark):
                step.mark(at)
        self.assertEqual(step.kept(), kept)
        self.assertEqual([answer(step, deed)[0] for deed in (
            ("put", 3, (4, "a", 1), 0), ("mark", 4, 0), ("mark", 5, 0), ("put", 3, (5, "a", 1), 0))], [
            "late", "back", "marked", "told"])

    def test_an_id_whose_row_is_fixed_is_as_a_new_one(self):
        step = BySilence(3, Total())
        step.put(1, (2, "a", 1))
        step.mark(3)
        self.assertEqual(step.put(1, None), [])
        self.assertEqual(step.put(1, (3, "a", 4)), [(("a", 2), (2, "a", 1), (3, "a", 5))])
        self.assertEqual(step.kept(), (3, [("a", 2, 2, 1)], [(1, 3, "a", 4)]))

    def test_ids_that_no_loose_row_has(self):
        step = BySilence(3, Total())
        for tag, time in enumerate((1, 9, 12)):
            step.put(tag, (time, "a", 1))
        step.mark(10)
        for tag in (0, 1, ("a", 1), ("a", 12), ("b", 9), ("a", 10)):
            with self.assertRaises(NotLoose):
                step.shaking(tag)
        self.assertEqual(run(step, step.shaking(("a", 9)))[-1][1][0][0], ("a", 9))

    def test_apart_where_blocks_are_unlike_by_one_thing(self):
        blocks = [("a", 2, 5, (1, 2)), ("a", 1, 5, (1, 2)), ("a", 2, 4, (1, 2)), ("a", 2, 5, (1, 3)), None]
        steps = []
        for block in blocks:
            step = BySilence(4, Unlike())
            step.lay((6, [] if block is None else [block], [(1, 9, "a", 4)]))
            steps.append(step)
        for one in steps:
            for other in steps:
                steplaw.check_apart(self, making(4, "unlike"), one, other)
        self.assertIsNone(unlike_at(steps[0], steps[3], [("put", 1, None, 0), ("mark", END, 0)]))
        self.assertIsNone(first_apart(steps[0], steps[3], [[("mark", END, 0)]]))

    def test_the_bounds_of_point_5(self):
        for word in plainsums.WORDS:
            for gap in (0, 10 ** 6):
                step = BySilence(gap, sum_of(word))
                for tag in range(150):
                    step.put(tag, (10 ** 10 - tag % 80, "abcdefgh"[: tag % 3 + 1], 10 ** 60 - 1 - tag % 7))
                step.mark(10 ** 10 - 40)
                other = step.twin()
                other.put(75, None)
                shape = making(gap, word)
                steplaw.check_touching(self, shape, step)
                for one, two in ((step, other), (other, step), (step, step.anew())):
                    steplaw.check_apart(self, shape, one, two)
                tag = step.loose()[-1][0]
                self.assertIn(tag, [change[0] for change in run(step, step.shaking(tag))[-1][1]])

    def test_sums_and_gap_are_handed_on_to_anew_and_twin(self):
        for word in plainsums.WORDS:
            step = BySilence(2, sum_of(word))
            for tag, value in ((1, 3), (2, 1), (3, 1), (4, 2)):
                step.put(tag, (2 * tag, "a", value))
            step.mark(3)
            for other in (step.anew(), step.twin()):
                other.lay(step.kept())
                self.assertEqual(other.loose(), step.loose())
                self.assertEqual(other.out_mark(), step.out_mark())

    def test_greatest_of_a_block_and_what_goes_on(self):
        step = BySilence(2, Greatest())
        step.put(1, (1, "a", 5))
        step.mark(2)
        self.assertEqual(step.put(2, (3, "a", 4)), [(("a", 1), (1, "a", 5), (3, "a", 5))])
        self.assertEqual(step.put(2, (3, "a", 6)), [(("a", 1), (3, "a", 5), (3, "a", 6))])


if __name__ == "__main__":
    unittest.main()
