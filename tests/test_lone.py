"""Points 3 to 5, 15 to 17, 26 and 28 of the step Lone."""

import unittest

import steplaw
from test_meets import alone_by_hand, near
from test_spans import spans_of
from weirmark.errors import BackMark, Fixed, Late, NotLoose
from weirmark.lone import Lone
from weirmark.rows import END
from weirmark.runs import answer, first_apart, run, unlike_at


def reached_by(row, within, least):
    """The times from least on that differ by within at most from the row's."""
    return {time for time in range(row[0] - within, row[0] + within + 1) if time >= least}


def entries_of(standing):
    return [(tag,) + standing[tag] for tag in sorted(standing, key=steplaw.id_key)]


def keep_of(within):
    """What point 28 says is kept, told by the rows that stand and the marks alone."""
    def keep(standings, marks):
        fixed = [row for row in standings[1].values() if row[0] < marks[1]]
        rows = {
            tag: row for tag, row in standings[0].items()
            if not (row[0] < marks[0] and row[0] + within < marks[1])
            and not [other for other in fixed if near(row, other, within)]}
        covered = {}
        for row in fixed:
            covered.setdefault(row[1], set()).update(reached_by(row, within, marks[0]))
        spans = [(key,) + span for key in sorted(covered) for span in spans_of(covered[key])]
        others = {
            tag: row[:2] for tag, row in standings[1].items()
            if row[0] >= marks[1] and (
                reached_by(row, within, marks[0]) - covered.get(row[1], set())
                or [one for one in rows.values() if one[0] < marks[0] and near(one, row, within)])}
        return (marks[0], marks[1], entries_of(rows), spans, entries_of(others))
    return keep


def making(within):
    keep = keep_of(within)
    return steplaw.Making(
        lambda: Lone(within), lambda standings: alone_by_hand(standings[0], standings[1], within), (-1, 0, 1), sides=2,
        longest=9, keep=keep,
        out=lambda standings, marks: min([marks[0]] + [entry[1] for entry in keep(standings, marks)[2]]))


def laid(within, kept):
    step = Lone(within)
    step.lay(kept)
    return step


class LawTest(unittest.TestCase):
    def test_what_every_step_promises(self):
        for within in (0, 1, 2, 5):
            with self.subTest(within=within):
                steplaw.check_all(self, making(within), seeds=30)

    def test_pairs_that_differ_by_little(self):
        one_id = steplaw.near_deeds((1,), (0, 1, 2, 3, 4, 5), "a", (0, 1), sides=2)
        two_ids = steplaw.near_deeds((1, 2), (0, 1, 2, 3, 4, 6), "a", (0,), sides=2)
        two_keys = steplaw.near_deeds((1, ("a", 0)), (0, 2, 4), "ab", (0,), sides=2)
        for within in (0, 1, 2):
            with self.subTest(within=within):
                for deeds in (one_id, two_ids, two_keys):
                    steplaw.check_near_pairs(self, making(within), deeds, most=600, pairs=500)

    def test_fixed_rows_that_are_kept(self):
        for within in (0, 2, 5):
            steplaw.check_fixed(self, making(within), 40, (2, 4))


class LoneTest(unittest.TestCase):
    def test_rows_are_lone_and_not(self):
        step = Lone(2)
        self.assertEqual(step.put(1, (5, "a", 7)), [(1, None, (5, "a", 7))])
        self.assertEqual(step.put(1, (7, "a", 10), 1), [(1, (5, "a", 7), None)])
        self.assertEqual(step.put(2, (3, "a", 10), side=1), [])
        self.assertEqual(step.put(("c", 2), (9, "a", 1)), [])
        self.assertEqual(step.put(-3, (10, "a", 1)), [(-3, None, (10, "a", 1))])
        self.assertEqual(step.put(4, (9, "b", 1)), [(4, None, (9, "b", 1))])
        self.assertEqual(step.put(1, (12, "a", 10), 1), [
            (-3, (10, "a", 1), None), (("c", 2), None, (9, "a", 1))])
        self.assertEqual(step.put(2, None, 1), [(1, None, (5, "a", 7))])
        self.assertEqual(step.put(2, None, 1), [])
        self.assertEqual(step.put(1, (5, "a", 8)), [(1, (5, "a", 7), (5, "a", 8))])
        self.assertEqual(step.put(1, (5, "a", 8)), [])
        self.assertEqual(step.put(-3, None), [])
        self.assertEqual(step.put(4, None), [(4, (9, "b", 1), None)])
        self.assertEqual(step.loose(), [(1, (5, "a", 8)), (("c", 2), (9, "a", 1))])
        self.assertEqual(step.kept(), (0, 0, [(1, 5, "a", 8), (("c", 2), 9, "a", 1)], [], [(1, 12, "a")]))

    def test_a_row_is_sure_where_it_is_fixed_and_nothing_near_it_can_come(self):
        for within in (0, 3):
            step = Lone(within)
            step.put(1, (5, "a", 7))
            self.assertEqual(step.mark(5 + within, 1), (0, []))
            self.assertEqual(step.mark(6, 0), (5, []))
            self.assertEqual(step.kept(), (6, 5 + within, [(1, 5, "a", 7)], [], []))
            self.assertEqual(step.mark(6 + within, 1), (6, [(1, (5, "a", 7))]))
            self.assertEqual(step.kept(), (6, 6 + within, [], [], []))
            step = Lone(within)
            step.put(1, (5, "a", 7))
            self.assertEqual(step.mark(6 + within, 1), (0, []))
            self.assertEqual(step.mark(5, 0), (5, []))
            self.assertEqual(step.kept(), (5, 6 + within, [(1, 5, "a", 7)], [], []))
            self.assertEqual(step.mark(6, 0), (6, [(1, (5, "a", 7))]))

    def test_a_row_beside_a_fixed_one_is_not_kept(self):
        step = Lone(2)
        for time in (3, 4, 5, 7, 8):
            step.put(time, (time, "a", 0))
        step.put(1, (5, "a", 0), 1)
        step.put(6, (5, "b", 0))
        self.assertEqual([tag for tag, _ in step.loose()], [6, 8])
        self.assertEqual(step.mark(6, 1), (0, []))
        self.assertEqual(step.kept(), (0, 6, [(6, 5, "b", 0), (8, 8, "a", 0)], [("a", 3, 7)], []))
        self.assertEqual(step.put(3, None), [])
        self.assertEqual(step.put(5, (2, "a", 1)), [(5, None, (2, "a", 1))])
        self.assertEqual(step.put(8, (7, "a", 1)), [(8, (8, "a", 0), None)])
        self.assertEqual(step.kept()[2], [(5, 2, "a", 1), (6, 5, "b", 0)])

    def test_spans_join_and_lie_one_apart(self):
        for gap, spans in ((5, [("a", 2, 11)]), (6, [("a", 2, 6), ("a", 8, 12)]), (3, [("a", 2, 9)])):
            step = Lone(2)
            step.put(1, (4, "a", 0), 1)
            step.put(2, (4 + gap, "a", 0), 1)
            step.mark(20, 1)
            self.assertEqual(step.kept(), (0, 20, [], spans, []))
            self.assertEqual([bool(step.twin().put(1, (time, "a", 0))) for time in range(14)], [
                not [1 for _, first, last in spans if first <= time <= last] for time in range(14)])

    def test_spans_of_several_keys_from_the_mark_on(self):
        step = Lone(2)
        for tag, (time, key) in enumerate(((9, "b"), (4, "a"), (15, "a"), (1, "c"), (0, "b"))):
            step.put(tag, (time, key, 5), 1)
        step.mark(20, 1)
        self.assertEqual(step.kept()[3], [
            ("a", 2, 6), ("a", 13, 17), ("b", 0, 2), ("b", 7, 11), ("c", 0, 3)])
        step.mark(3, 0)
        self.assertEqual(step.kept()[3], [("a", 3, 6), ("a", 13, 17), ("b", 7, 11), ("c", 3, 3)])
        step.mark(17, 0)
        self.assertEqual(step.kept()[3], [("a", 17, 17)])
        step.mark(18, 0)
        self.assertEqual(step.kept()[3], [])

    def test_a_row_of_side_1_that_reaches_times_some_or_all_of_which_are_covered(self):
        step = Lone(1)
        step.put(1, (4, "a", 0), 1)
        step.put(2, (6, "a", 0), 1)
        step.mark(7, 1)
        self.assertEqual(step.kept()[3], [("a", 3, 7)])
        step.put(3, (7, "a", 0), 1)
        self.assertEqual(step.kept()[4], [(3, 7, "a")])
        step.mark(8, 0)
        self.assertEqual(step.kept(), (8, 7, [], [], [(3, 7, "a")]))
        step.mark(9, 0)
        self.assertEqual(step.kept(), (9, 7, [], [], []))
        step = Lone(1)
        for tag, time in enumerate((4, 6, 8)):
            step.put(tag, (time, "a", 0), 1)
        step.mark(5, 0)
        step.put(7, (7, "a", 0), 1)
        step.put(9, (8, "a", 0), 1)
        step.put(11, (8, "b", 0), 1)
        self.assertEqual([entry[0] for entry in step.kept()[4]], [0, 1, 2, 7, 9, 11])
        step.mark(7, 1)
        self.assertEqual(step.kept()[3:], ([("a", 5, 7)], [(2, 8, "a"), (7, 7, "a"), (9, 8, "a"), (11, 8, "b")]))
        step.mark(8, 1)
        self.assertEqual(step.kept()[3:], ([("a", 5, 8)], [(2, 8, "a"), (9, 8, "a"), (11, 8, "b")]))

    def test_a_row_of_side_1_whose_times_are_all_covered_is_kept_for_a_fixed_row(self):
        step = Lone(1)
        step.put(5, (3, "a", 1), 0)
        step.put(1, (5, "a", 0), 1)
        step.put(2, (3, "a", 0), 1)
        step.put(3, (4, "a", 0), 1)
        self.assertEqual(step.mark(4, 0), (3, []))
        self.assertEqual(step.mark(3, 1), (3, []))
        self.assertEqual(step.kept(), (4, 3, [(5, 3, "a", 1)], [], [(1, 5, "a"), (2, 3, "a"), (3, 4, "a")]))
        step.mark(5, 0)
        self.assertEqual(step.kept()[4], [(1, 5, "a"), (2, 3, "a"), (3, 4, "a")])
        step.mark(6, 0)
        self.assertEqual(step.kept()[4], [(1, 5, "a"), (2, 3, "a"), (3, 4, "a")])
        step.mark(7, 0)
        self.assertEqual(step.kept()[4], [(2, 3, "a"), (3, 4, "a")])
        self.assertEqual(step.put(2, None, 1), [])
        self.assertEqual(step.put(3, None, 1), [(5, None, (3, "a", 1))])
        self.assertEqual(step.put(3, (4, "a", 7), 1), [(5, (3, "a", 1), None)])
        self.assertEqual(step.mark(5, 1), (7, []))
        self.assertEqual(step.kept(), (7, 5, [], [], []))

    def test_fixed_and_late(self):
        step = Lone(5)
        step.put(1, (3, "a", 7), 0)
        step.put(2, (9, "a", 7), 0)
        step.put(1, (9, "b", 1), 1)
        step.mark(6, 0)
        kept = step.kept()
        for row in (None, (6, "a", 1), (8, "b", 0)):
            with self.assertRaises(Fixed):
                step.put(1, row)
        for tag in (1, 2, 3):
            with self.assertRaises(Late):
                step.put(tag, (5, "a", 1))
        with self.assertRaises(BackMark):
            step.mark(5)
        step.mark(2, 1)
        with self.assertRaises(Late):
            step.put(1, (1, "a", 0), side=1)
        with self.assertRaises(BackMark):
            step.mark(1, side=1)
        self.assertEqual(step.kept(), (6, 2) + kept[2:])
        self.assertEqual(step.put(1, (2, "a", 1), 1), [(1, (3, "a", 7), None)])
        self.assertEqual([answer(step, deed) for deed in (
            ("put", 1, None, 0), ("put", 1, (5, "a", 0), 0), ("mark", 5, 0), ("mark", 6, 0))], [
            ("fixed",), ("late",), ("back",), ("marked", 3, [])])

    def test_ids_of_fixed_rows_that_are_kept_no_more_are_as_new_ones(self):
        step = Lone(1)
        step.put(1, (3, "a", 7), 0)
        step.put(2, (6, "a", 1), 1)
        step.mark(5, 0)
        self.assertEqual(step.mark(7, 1), (5, [(1, (3, "a", 7))]))
        self.assertEqual(step.kept(), (5, 7, [], [("a", 5, 7)], []))
        self.assertEqual(step.put(1, None, 0), [])
        self.assertEqual(step.put(1, (6, "a", 9), 0), [])
        self.assertEqual(step.put(1, (8, "a", 9), 0), [(1, None, (8, "a", 9))])
        self.assertEqual(step.put(2, None, 1), [])
        self.assertEqual(step.put(2, (7, "a", 0), 1), [(1, (8, "a", 9), None)])
        self.assertEqual(step.kept(), (5, 7, [(1, 8, "a", 9)], [("a", 5, 7)], [(2, 7, "a")]))

    def test_the_end_at_one_side_and_at_both(self):
        step = Lone(4)
        step.put(1, (5, "a", 7), 0)
        step.put(2, (9, "b", 7), 0)
        step.put(2, (13, "b", 8), 1)
        self.assertEqual(step.mark(END, 0), (5, []))
        self.assertEqual(step.kept()[4], [(2, 13, "b")])
        for tag in (1, 2, 3):
            with self.assertRaises(Late):
                step.put(tag, (10 ** 11, "a", 1), 0)
        steplaw.check_shaking(self, making(4), step)
        steplaw.check_touching(self, making(4), step)
        self.assertEqual(step.mark(13, 1), (9, [(1, (5, "a", 7))]))
        steplaw.check_touching(self, making(4), step)
        self.assertEqual(step.mark(END, 1), (END, []))
        self.assertEqual((step.kept(), step.loose(), step.touching()), ((END, END, [], [], []), [], None))
        step = Lone(4)
        step.put(1, (5, "a", 7), 0)
        step.put(2, (9, "b", 7), 0)
        step.put(2, (13, "b", 8), 1)
        self.assertEqual(step.mark(END, 1), (0, []))
        self.assertEqual(step.kept(), (0, END, [(1, 5, "a", 7)], [("b", 9, 17)], []))
        steplaw.check_shaking(self, making(4), step)
        self.assertEqual(step.mark(END, 0), (END, [(1, (5, "a", 7))]))
        self.assertEqual((step.kept(), step.loose(), step.touching()), ((END, END, [], [], []), [], None))

    def test_out_mark_goes_by_kept_rows_that_are_not_lone_too(self):
        step = Lone(2)
        step.put(1, (3, "a", 7), 0)
        step.put(1, (4, "a", 7), 1)
        self.assertEqual(step.mark(9, 0), (3, []))
        self.assertEqual(step.loose(), [])
        self.assertEqual(run(step, step.touching())[-1], ("told", [(1, None, (3, "a", 7))]))
        self.assertEqual(step.mark(4, 1), (3, []))
        self.assertEqual(step.mark(5, 1), (9, []))
        self.assertEqual(step.touching()[-1][2][0], 9)

    def test_rows_of_one_time_and_the_same_id_at_both_sides(self):
        step = Lone(0)
        for tag in (("a", 1), 9, -1):
            step.put(tag, (5, "a", 1), 0)
        self.assertEqual(step.put(9, (5, "a", 2), 1), [
            (-1, (5, "a", 1), None), (9, (5, "a", 1), None), (("a", 1), (5, "a", 1), None)])
        self.assertEqual(step.put(9, (5, "b", 2), 1), [
            (-1, None, (5, "a", 1)), (9, None, (5, "a", 1)), (("a", 1), None, (5, "a", 1))])
        step.mark(6, 0)
        self.assertEqual(step.mark(6, 1), (6, [(-1, (5, "a", 1)), (9, (5, "a", 1)), (("a", 1), (5, "a", 1))]))

    def test_ids_that_no_loose_row_has(self):
        step = Lone(2)
        step.put(1, (5, "a", 7), 0)
        step.put(2, (9, "a", 8), 0)
        step.put(3, (0, "a", 8), 0)
        step.put(4, (9, "a", 0), 1)
        step.put(5, (9, "b", 8), 0)
        step.mark(6, 0)
        step.mark(3, 1)
        for tag in (2, 3, 4, 6, ("a", 1), (0, 1)):
            with self.assertRaises(NotLoose):
                step.shaking(tag)
        self.assertEqual(run(step, step.shaking(1))[-1], ("told", [(1, (5, "a", 7), None)]))
        self.assertEqual(run(step, step.shaking(5))[-1], ("told", [(5, (9, "b", 8), None)]))

    def test_apart_where_little_is_unlike(self):
        # Of side 1 the rows differ in time alone and reach the same: each but by what a mark between them fixes.
        keeps = [
            (5, 6, [], [("a", 5, 8)], [(1, 8, "a")]), (5, 6, [], [("a", 5, 8)], [(1, 9, "a")]),
            (5, 6, [], [("a", 5, 8)], []), (5, 6, [], [("a", 5, 7)], []), (5, 6, [], [("a", 5, 5), ("a", 7, 8)], []),
            (5, 6, [], [("a", 6, 8)], []), (5, 6, [], [("b", 5, 8)], []), (5, 6, [(1, 5, "a", 0)], [], []),
            (5, 6, [(1, 4, "a", 0)], [], []), (5, 6, [(1, 4, "a", 1)], [], []), (5, 6, [(1, 4, "a", 1)], [], [(1, 6, "a")]),
            (5, 6, [(1, 4, "a", 1)], [("a", 7, 9)], [(1, 6, "a")]), (5, 6, [(1, 4, "a", 1)], [("a", 7, 9)], [(2, 6, "a")]),
            (5, 6, [], [], [(1, 6, "a")]), (5, 6, [], [], [(1, 6, "b")]), (END, 2, [(1, 4, "a", 1)], [], [(1, 3, "a")]),
            (END, 2, [(1, 4, "a", 1)], [], [(1, 4, "a")]), (END, 2, [(1, 4, "a", 1)], [], []),
        ]
        # Here the row that is hidden is not the only one at out_mark().
        two = [(1, 4, "b", 1), (2, 4, "a", 1)]
        keeps = [(END, 2, two, [], [(1, 5, "a")]), (END, 2, two, [], [(1, 6, "a")]), (END, 2, two, [], [])] + keeps
        # Here new ids must not be those of fixed rows.
        for others in ([], [(1, 6, "a")], [(1, 7, "a")], [(-1, 6, "a")]):
            keeps.append((5, 6, [(-1, 4, "b", 0)], [], others))
        keeps += [(5, 6, [(-1, 4, "b", 0)], [("a", 5, 7)], []), (7, 6, [(-1, 4, "b", 0)], [], []), (7, 6, [], [], [])]
        steps = [laid(2, kept) for kept in keeps]
        for one in steps:
            for other in steps:
                steplaw.check_apart(self, making(2), one, other)
        one, two, none = [laid(2, (END, 2, [(1, 4, "a", 1)], [], others)) for others in ([(1, 3, "a")], [(1, 4, "a")], [])]
        self.assertEqual(unlike_at(none, two, [("mark", 2, 1), ("put", 1, None, 1)]), 1)
        self.assertIsNone(first_apart(one, two, [[("put", 1, None, 1)], [("mark", 3, 1)]]))

    def test_the_bounds_of_point_5_and_ids_as_deep_as_can_be(self):
        deep = 0
        for _ in range(7):
            deep = ("a", deep)
        step = Lone(10 ** 6)
        step.put(deep, (10 ** 10, "abcdefgh", 10 ** 60 - 1), 0)
        step.put(-10 ** 80, (10 ** 10 - 1, "a", 1), 0)
        step.put(1, (10 ** 10 - 10 ** 6 - 1, "abcdefgh", 1), 1)
        step.put(deep, (10 ** 10, "b", 1), 1)
        step.mark(10 ** 10, 0)
        step.mark(10 ** 10, 1)
        self.assertEqual([tag for tag, _ in step.loose()], [-10 ** 80, deep])
        shape = making(10 ** 6)
        steplaw.check_touching(self, shape, step)
        steplaw.check_shaking(self, shape, step)
        kept = step.kept()
        for other in (Lone(10 ** 6), laid(10 ** 6, kept[:2] + ([], [], [])), laid(10 ** 6, kept[:4] + ([],))):
            steplaw.check_apart(self, shape, step, other)
            steplaw.check_apart(self, shape, other, step)

    def test_as_many_rows_as_can_stand(self):
        step = Lone(3)
        for tag in range(150):
            step.put(tag, (tag * 2, "ab"[tag % 3 // 2], tag), int(tag % 4 == 3))
        step.mark(160, 0)
        step.mark(150, 1)
        shape = making(3)
        steplaw.check_touching(self, shape, step)
        steplaw.check_shaking(self, shape, step)
        for tag, side in ((149, 0), (147, 1)):
            other = step.twin()
            other.put(tag, None, side)
            for one, two in ((step, other), (other, step), (step, step.anew())):
                self.assertNotEqual(one.kept(), two.kept())
                steplaw.check_apart(self, shape, one, two)

    def test_values_of_side_1_do_not_matter(self):
        one = Lone(1)
        other = Lone(1)
        one.put(1, (5, "a", 1), 1)
        other.put(1, (5, "a", 2), 1)
        self.assertEqual(one.kept(), (0, 0, [], [], [(1, 5, "a")]))
        self.assertIsNone(one.apart(other))


if __name__ == "__main__":
    unittest.main()
