"""Points 3 to 5, 15 to 17, 23 and 24 of the step SoFar."""

import unittest

import plainsums
import steplaw
from test_lots import running_by_hand
from weirmark.counts import Count, Last, Total
from weirmark.errors import BackMark, Late, NotLoose
from weirmark.extremes import Least, Unlike
from weirmark.rows import END, in_order
from weirmark.runs import answer, first_apart, run, unlike_at
from weirmark.sofar import SoFar
from weirmark.sumwords import sum_of


def keep_of(word):
    """What point 24 says is kept, told by the rows that stand and the mark alone."""
    def keep(standings, marks):
        fixed = {}
        entries = []
        for tag, (time, key, value) in in_order(standings[0]):
            if time < marks[0]:
                fixed.setdefault(key, []).append(value)
            else:
                entries.append((tag, time, key, plainsums.trimmed(word, fixed.get(key, []), value)))
        parts = [(key, plainsums.part_of(word, values)) for key, values in sorted(fixed.items())]
        if word == "last" or marks[0] == END:
            parts = []
        if word == "total":
            parts = [entry for entry in parts if entry[1] != 0]
        return (marks[0], parts, sorted(entries, key=lambda entry: steplaw.id_key(entry[0])))
    return keep


def making(word):
    return steplaw.Making(
        lambda: SoFar(sum_of(word)), lambda standings: running_by_hand(standings[0], word), (-1, 0, 1, 2),
        keep=keep_of(word), out=lambda standings, marks: marks[0])


class LawTest(unittest.TestCase):
    def test_what_every_step_promises(self):
        for word in plainsums.WORDS:
            with self.subTest(word=word):
                steplaw.check_all(self, making(word), seeds=24)

    def test_pairs_that_differ_by_little(self):
        deeds = steplaw.near_deeds((1, 2, ("a", 0)), (0, 1), "ab", (0, 1, -1))
        one_key = steplaw.near_deeds((-1, 0, ("a", 0)), (0, 1, 2), "a", (0, 1, 2))
        for word in plainsums.WORDS:
            with self.subTest(word=word):
                steplaw.check_near_pairs(self, making(word), deeds, pairs=200)
                steplaw.check_near_pairs(self, making(word), one_key, pairs=200)


class SoFarTest(unittest.TestCase):
    def test_a_row_changes_those_behind_it(self):
        step = SoFar(Total())
        self.assertEqual(step.put(1, (5, "a", 1)), [(1, None, (5, "a", 1))])
        self.assertEqual(step.put(2, (7, "a", 2)), [(2, None, (7, "a", 3))])
        self.assertEqual(step.put(3, (6, "b", 9)), [(3, None, (6, "b", 9))])
        self.assertEqual(step.put(("a", 4), (5, "a", 4)), [
            (2, (7, "a", 3), (7, "a", 7)), (("a", 4), None, (5, "a", 5))])
        self.assertEqual(step.put(1, (5, "b", 1)), [
            (1, (5, "a", 1), (5, "b", 1)), (2, (7, "a", 7), (7, "a", 6)), (3, (6, "b", 9), (6, "b", 10)),
            (("a", 4), (5, "a", 5), (5, "a", 4))])
        self.assertEqual(step.put(2, (4, "a", 2)), [
            (2, (7, "a", 6), (4, "a", 2)), (("a", 4), (5, "a", 4), (5, "a", 6))])
        self.assertEqual(step.put(2, None), [(2, (4, "a", 2), None), (("a", 4), (5, "a", 6), (5, "a", 4))])
        self.assertEqual(step.put(2, None), [])
        self.assertEqual(step.loose(), [(1, (5, "b", 1)), (("a", 4), (5, "a", 4)), (3, (6, "b", 10))])

    def test_a_row_is_sure_where_it_is_fixed(self):
        step = SoFar(Total())
        for tag, time in enumerate((1, 3, 5)):
            step.put(tag, (time, "a", 1))
        self.assertEqual(step.mark(3), (3, [(0, (1, "a", 1))]))
        self.assertEqual(step.kept(), (3, [("a", 1)], [(1, 3, "a", 1), (2, 5, "a", 1)]))
        self.assertEqual(step.mark(4), (4, [(1, (3, "a", 2))]))
        self.assertEqual(step.kept(), (4, [("a", 2)], [(2, 5, "a", 1)]))
        self.assertEqual(step.loose(), [(2, (5, "a", 3))])

    def test_totals_of_0(self):
        step = SoFar(Total())
        step.put(1, (0, "a", 0))
        step.put(2, (1, "a", 5))
        step.put(3, (2, "a", -5))
        step.put(4, (0, "b", 3))
        self.assertEqual(step.mark(1)[1], [(1, (0, "a", 0)), (4, (0, "b", 3))])
        self.assertEqual(step.kept()[1], [("b", 3)])
        step.mark(2)
        self.assertEqual(step.kept()[1], [("a", 5), ("b", 3)])
        self.assertEqual(step.mark(3)[1], [(3, (2, "a", 0))])
        self.assertEqual(step.kept()[1], [("b", 3)])
        self.assertEqual(step.put(5, (3, "a", 7)), [(5, None, (3, "a", 7))])

    def test_no_parts_of_the_last(self):
        step = SoFar(Last())
        step.put(1, (0, "a", 4))
        step.put(2, (1, "a", 6))
        self.assertEqual(step.mark(1), (1, [(1, (0, "a", 4))]))
        self.assertEqual(step.kept(), (1, [], [(2, 1, "a", 6)]))

    def test_values_are_trimmed_against_the_fixed_rows_of_their_key(self):
        kept_of = {"count": None, "total": 5, "least": None, "greatest": None, "last": 5, "unlike": None}
        for word, kept in kept_of.items():
            step = SoFar(sum_of(word))
            step.put(1, (3, "a", 5))
            step.put(2, (7, "a", 5))
            step.put(3, (7, "b", 5))
            self.assertEqual(step.kept()[2][1][3], None if word == "count" else 5)
            step.mark(4)
            step.put(4, (9, "a", 5))
            free = None if word == "count" else 5
            self.assertEqual(step.kept()[2], [(2, 7, "a", kept), (3, 7, "b", free), (4, 9, "a", kept)], word)
            self.assertEqual(dict(step.loose())[4][2], plainsums.SUMS[word]([5, 5, 5]))

    def test_a_value_that_weighs_is_kept_till_it_does_not(self):
        step = SoFar(Least())
        for tag, value in enumerate((5, 3, 4, 2)):
            step.put(tag, (tag, "a", value))
        step.mark(1)
        self.assertEqual([entry[3] for entry in step.kept()[2]], [3, 4, 2])
        step.mark(2)
        self.assertEqual([entry[3] for entry in step.kept()[2]], [None, 2])
        self.assertEqual(step.loose(), [(2, (2, "a", 3)), (3, (3, "a", 2))])

    def test_a_key_of_which_fixed_rows_alone_are_there(self):
        step = SoFar(Unlike())
        step.put(1, (0, "a", 4))
        step.put(2, (1, "a", 2))
        step.mark(2)
        self.assertEqual(step.kept(), (2, [("a", (2, 4))], []))
        self.assertEqual(step.loose(), [])
        self.assertEqual(step.put(3, (2, "a", 4)), [(3, None, (2, "a", 2))])
        self.assertEqual(step.put(3, (2, "a", 5)), [(3, (2, "a", 2), (2, "a", 3))])

    def test_rows_of_one_time_under_several_ids(self):
        step = SoFar(Count())
        for tag in (("a", 1), 9, -1, ("b", 0)):
            step.put(tag, (5, "a", 0))
        told = [(-1, (5, "a", 1)), (9, (5, "a", 2)), (("a", 1), (5, "a", 3)), (("b", 0), (5, "a", 4))]
        self.assertEqual(step.loose(), told)
        self.assertEqual(step.mark(6), (6, told))

    def test_the_end(self):
        for word in plainsums.WORDS:
            step = SoFar(sum_of(word))
            step.put(1, (3, "a", 1))
            step.mark(4)
            step.put(3, (10 ** 10, "a", 1))
            step.put(2, (10 ** 10, "b", 1))
            out, sure = step.mark(END)
            self.assertEqual((out, [tag for tag, _ in sure]), (END, [2, 3]))
            self.assertEqual((step.kept(), step.loose(), step.touching()), ((END, [], []), [], None))
            self.assertEqual(step.mark(END), (END, []))
            with self.assertRaises(Late):
                step.put(1, (10 ** 11, "a", 1))
            self.assertEqual(step.put(1, None), [])

    def test_late_puts_and_marks_told_back(self):
        step = SoFar(Total())
        step.put(1, (7, "a", 4))
        step.put(2, (3, "a", 4))
        step.mark(5)
        kept = step.kept()
        for tag in (1, 2, 3):
            with self.assertRaises(Late):
                step.put(tag, (4, "a", 1))
        for at in (4, 0):
            with self.assertRaises(BackMark):
                step.mark(at)
        self.assertEqual(step.kept(), kept)
        self.assertEqual([answer(step, deed)[0] for deed in (
            ("put", 3, (4, "a", 1), 0), ("mark", 4, 0), ("mark", 5, 0), ("put", 3, (5, "a", 1), 0))], [
            "late", "back", "marked", "told"])

    def test_an_id_whose_row_is_fixed_is_as_a_new_one(self):
        step = SoFar(Total())
        step.put(1, (2, "a", 1))
        step.mark(3)
        self.assertEqual(step.put(1, None), [])
        self.assertEqual(step.put(1, (3, "a", 4)), [(1, None, (3, "a", 5))])
        self.assertEqual(step.kept(), (3, [("a", 1)], [(1, 3, "a", 4)]))

    def test_ids_that_no_loose_row_has(self):
        step = SoFar(Total())
        step.put(1, (2, "a", 1))
        step.put(2, (5, "a", 1))
        step.mark(3)
        for tag in (1, 3, ("a", 2)):
            with self.assertRaises(NotLoose):
                step.shaking(tag)
        self.assertEqual(run(step, step.shaking(2))[-1], ("told", [(2, (5, "a", 2), None)]))

    def test_apart_where_parts_or_values_count_alike(self):
        keeps = [
            (6, [("a", (1, 2))], [(1, 9, "a", 4)]), (6, [("a", (1, 3))], [(1, 9, "a", 4)]),
            (6, [("a", (1, 2))], [(1, 9, "a", 5)]), (6, [("a", (1, 2))], [(1, 9, "a", None)]),
            (6, [("a", (1, 2, 3))], [(1, 9, "a", 4)]), (6, [], [(1, 9, "a", 4)]),
        ]
        steps = []
        for kept in keeps:
            step = SoFar(Unlike())
            step.lay(kept)
            steps.append(step)
        for one in steps:
            for other in steps:
                steplaw.check_apart(self, making("unlike"), one, other)
        self.assertIsNone(unlike_at(steps[0], steps[1], [("put", 1, None, 0), ("mark", END, 0)]))
        self.assertIsNone(first_apart(steps[0], steps[2], [[("mark", END, 0)]]))

    def test_the_bounds_of_point_5(self):
        for word in plainsums.WORDS:
            step = SoFar(sum_of(word))
            for tag in range(150):
                step.put(tag, (10 ** 10 - tag % 80, "ab"[tag % 2], 10 ** 60 - 1 - tag % 7))
            step.mark(10 ** 10 - 70)
            other = step.twin()
            other.put(75, None)
            shape = making(word)
            steplaw.check_touching(self, shape, step)
            for one, two in ((step, other), (other, step), (step, step.anew())):
                steplaw.check_apart(self, shape, one, two)

    def test_sums_are_handed_on_to_anew_and_twin(self):
        for word in plainsums.WORDS:
            step = SoFar(sum_of(word))
            for tag, value in ((1, 3), (2, 1), (3, 1), (4, 2)):
                step.put(tag, (tag, "a", value))
            step.mark(3)
            for other in (step.anew(), step.twin()):
                other.lay(step.kept())
                self.assertEqual(other.loose(), step.loose())


if __name__ == "__main__":
    unittest.main()
