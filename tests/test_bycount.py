"""Points 3 to 5, 15 to 17, 23 and 24 of the step ByCount."""

import unittest

import plainsums
import steplaw
from test_lots import lots_by_hand
from weirmark.bycount import ByCount
from weirmark.counts import Count, Last, Total
from weirmark.errors import BackMark, Late, NotLoose
from weirmark.extremes import Least, Unlike
from weirmark.rows import END, in_order
from weirmark.runs import answer, first_apart, run, unlike_at
from weirmark.sumwords import sum_of


def keep_of(many, word):
    """What point 24 says is kept, told by the rows that stand and the mark alone."""
    def keep(standings, marks):
        fixed = {}
        entries = []
        for tag, (time, key, value) in in_order(standings[0]):
            if time < marks[0]:
                fixed.setdefault(key, []).append(value)
            else:
                entries.append((tag, time, key, None if word == "count" else value))
        heads = []
        for key, values in sorted(fixed.items()):
            over = values[len(values) - len(values) % many:]
            heads.append((key, len(values), None if word in ("count", "last") else plainsums.part_of(word, over)))
        entries.sort(key=lambda entry: steplaw.id_key(entry[0]))
        return (marks[0], [] if marks[0] == END else heads, entries)
    return keep


def making(many, word):
    return steplaw.Making(
        lambda: ByCount(many, sum_of(word)), lambda standings: lots_by_hand(standings[0], many, word), (-1, 0, 1, 2),
        keep=keep_of(many, word), out=lambda standings, marks: marks[0])


class LawTest(unittest.TestCase):
    def test_what_every_step_promises(self):
        for word in plainsums.WORDS:
            for many in (2, 3, 5):
                with self.subTest(word=word, many=many):
                    steplaw.check_all(self, making(many, word), seeds=16)

    def test_lots_of_sixty(self):
        for word in plainsums.WORDS:
            with self.subTest(word=word):
                steplaw.check_asking(self, making(60, word), seeds=3)

    def test_pairs_that_differ_by_little(self):
        deeds = steplaw.near_deeds((1, 2, ("a", 0)), (0, 1), "ab", (0, 1, -1))
        one_key = steplaw.near_deeds((-1, 0, ("a", 0)), (0, 1, 2), "a", (0, 1, 2))
        for word in plainsums.WORDS:
            for many in (2, 3):
                with self.subTest(word=word, many=many):
                    steplaw.check_near_pairs(self, making(many, word), deeds, pairs=120)
                    steplaw.check_near_pairs(self, making(many, word), one_key, pairs=120)


class ByCountTest(unittest.TestCase):
    def test_lots_fill_and_shift(self):
        step = ByCount(2, Total())
        self.assertEqual(step.put(1, (5, "a", 1)), [])
        self.assertEqual(step.put(2, (7, "a", 2)), [(("a", 0), None, (7, "a", 3))])
        self.assertEqual(step.put(3, (6, "b", 9)), [])
        self.assertEqual(step.put(4, (6, "a", 4)), [(("a", 0), (7, "a", 3), (6, "a", 5))])
        self.assertEqual(step.put(5, (5, "a", 8)), [
            (("a", 0), (6, "a", 5), (5, "a", 9)), (("a", 1), None, (7, "a", 6))])
        self.assertEqual(step.put(1, None), [
            (("a", 0), (5, "a", 9), (6, "a", 12)), (("a", 1), (7, "a", 6), None)])
        self.assertEqual(step.put(5, (9, "b", 8)), [
            (("a", 0), (6, "a", 12), (7, "a", 6)), (("b", 0), None, (9, "b", 17))])
        self.assertEqual(step.put(1, None), [])

    def test_a_row_is_sure_where_its_lots_last_row_is_fixed(self):
        step = ByCount(2, Total())
        for tag, time in enumerate((1, 3, 5)):
            step.put(tag, (time, "a", 1))
        self.assertEqual(step.mark(3), (3, []))
        self.assertEqual(step.loose(), [(("a", 0), (3, "a", 2))])
        self.assertEqual(step.kept(), (3, [("a", 1, 1)], [(1, 3, "a", 1), (2, 5, "a", 1)]))
        self.assertEqual(step.mark(4), (4, [(("a", 0), (3, "a", 2))]))
        self.assertEqual(step.kept(), (4, [("a", 2, None)], [(2, 5, "a", 1)]))
        self.assertEqual(step.put(3, (9, "a", 4)), [(("a", 1), None, (9, "a", 5))])

    def test_keys_with_a_full_lot_one_less_and_one_more(self):
        for many in (2, 60):
            for size in (many - 1, many, many + 1):
                for word in plainsums.WORDS:
                    step = ByCount(many, sum_of(word))
                    for tag in range(size):
                        step.put(tag, (tag, "a", tag))
                    sure = step.mark(size)[1]
                    self.assertEqual([tag for tag, _ in sure], [("a", 0)] if size >= many else [])
                    over = list(range(size))[size - size % many:]
                    part = None if word in ("count", "last") else plainsums.part_of(word, over)
                    self.assertEqual(step.kept(), (size, [("a", size, part)], []))
                    self.assertEqual(step.loose(), [])
                    # So many more fill the lot that is begun.
                    for tag in range(size, 2 * many):
                        told = step.put(tag, (200, "a", tag))
                    number = 0 if size < many else 1
                    self.assertEqual(told[-1][0], ("a", 1))
                    whole = list(range(many * number, many * number + many))
                    self.assertEqual(dict(step.loose())[("a", number)][2], plainsums.SUMS[word](whole), (word, size))

    def test_a_key_of_which_fixed_rows_alone_are_there(self):
        step = ByCount(3, Least())
        step.put(1, (0, "a", 4))
        step.put(2, (1, "a", 2))
        step.put(3, (1, "b", 7))
        self.assertEqual(step.mark(2), (2, []))
        self.assertEqual(step.kept(), (2, [("a", 2, 2), ("b", 1, 7)], []))
        self.assertEqual(step.loose(), [])
        self.assertEqual(step.put(4, (2, "a", 9)), [(("a", 0), None, (2, "a", 2))])
        self.assertEqual(step.put(4, (2, "a", 1)), [(("a", 0), (2, "a", 2), (2, "a", 1))])

    def test_totals_of_0(self):
        step = ByCount(3, Total())
        step.put(1, (0, "a", 0))
        step.mark(1)
        self.assertEqual(step.kept(), (1, [("a", 1, 0)], []))
        step.put(2, (1, "a", 5))
        step.put(3, (2, "a", -5))
        self.assertEqual(step.mark(3), (3, [(("a", 0), (2, "a", 0))]))
        self.assertEqual(step.kept(), (3, [("a", 3, None)], []))

    def test_no_parts_and_no_values_that_do_not_matter(self):
        for word in ("count", "last"):
            step = ByCount(3, sum_of(word))
            for tag in range(3):
                step.put(tag, (tag, "a", 8))
            step.mark(2)
            self.assertEqual(step.kept(), (2, [("a", 2, None)], [(2, 2, "a", None if word == "count" else 8)]))
            self.assertEqual(step.loose(), [(("a", 0), (2, "a", 3 if word == "count" else 8))])

    def test_rows_of_one_time_under_several_ids(self):
        step = ByCount(2, Last())
        for tag, value in ((("a", 1), 1), (9, 2), (-1, 3), (("b", 0), 4)):
            step.put(tag, (5, "a", value))
        self.assertEqual(step.loose(), [(("a", 0), (5, "a", 2)), (("a", 1), (5, "a", 4))])
        self.assertEqual(step.mark(6)[1], [(("a", 0), (5, "a", 2)), (("a", 1), (5, "a", 4))])

    def test_sure_rows_in_true_order(self):
        step = ByCount(2, Count())
        for tag, (time, key) in enumerate(((9, "b"), (1, "b"), (3, "a"), (9, "a"), (4, "c"), (2, "c"))):
            step.put(tag, (time, key, 0))
        self.assertEqual(step.mark(10)[1], [
            (("c", 0), (4, "c", 2)), (("a", 0), (9, "a", 2)), (("b", 0), (9, "b", 2))])

    def test_the_end(self):
        for word in plainsums.WORDS:
            step = ByCount(2, sum_of(word))
            step.put(1, (3, "a", 1))
            step.put(2, (3, "b", 1))
            step.mark(4)
            step.put(3, (10 ** 10, "a", 1))
            out, sure = step.mark(END)
            self.assertEqual((out, [tag for tag, _ in sure]), (END, [("a", 0)]))
            self.assertEqual((step.kept(), step.loose(), step.touching()), ((END, [], []), [], None))
            self.assertEqual(step.mark(END), (END, []))
            with self.assertRaises(Late):
                step.put(1, (10 ** 11, "a", 1))
            self.assertEqual(step.put(1, None), [])
            self.assertIsNone(step.apart(lay_end(step.anew())))

    def test_late_puts_and_marks_told_back(self):
        step = ByCount(2, Total())
        step.put(1, (7, "a", 4))
        step.put(2, (3, "a", 4))
        step.mark(5)
        kept = step.kept()
        for tag in (1, 2, 3):
            with self.assertRaises(Late):
                step.put(tag, (4, "a", 1))
        for at in (4, 0):
            with self.assertRaises(BackMark):
                step.mark(at)
        self.assertEqual(step.kept(), kept)
        self.assertEqual([answer(step, deed)[0] for deed in (
            ("put", 3, (4, "a", 1), 0), ("mark", 4, 0), ("mark", 5, 0), ("put", 3, (5, "a", 1), 0))], [
            "late", "back", "marked", "told"])

    def test_an_id_whose_row_is_fixed_is_as_a_new_one(self):
        step = ByCount(2, Total())
        step.put(1, (2, "a", 1))
        step.mark(3)
        self.assertEqual(step.put(1, None), [])
        self.assertEqual(step.put(1, (3, "a", 4)), [(("a", 0), None, (3, "a", 5))])
        self.assertEqual(step.kept(), (3, [("a", 1, 1)], [(1, 3, "a", 4)]))

    def test_ids_that_no_loose_row_has(self):
        step = ByCount(2, Total())
        for tag, time in enumerate((1, 2, 5, 6, 9)):
            step.put(tag, (time, "a", 1))
        step.mark(3)
        for tag in (0, 2, ("a", 0), ("a", 2), ("b", 1), (1, 1)):
            with self.assertRaises(NotLoose):
                step.shaking(tag)
        self.assertEqual(run(step, step.shaking(("a", 1)))[-1][1][0][0], ("a", 1))

    def test_shaking_where_rows_shift_into_the_place_of_others(self):
        for word in plainsums.WORDS:
            step = ByCount(2, sum_of(word))
            for tag in range(7):
                step.put(tag, (5, "a", 1))
            steplaw.check_shaking(self, making(2, word), step)

    def test_apart_where_heads_are_unlike_by_one_thing(self):
        heads = [("a", 4, (1, 2)), ("a", 5, (1, 2)), ("a", 7, (1, 2)), ("a", 4, (1, 3)), ("a", 3, None), None]
        steps = []
        for head in heads:
            step = ByCount(3, Unlike())
            step.lay((6, [] if head is None else [head], [(1, 9, "a", 4)]))
            steps.append(step)
        for one in steps:
            for other in steps:
                steplaw.check_apart(self, making(3, "unlike"), one, other)
        self.assertIsNone(unlike_at(steps[0], steps[2], [("put", 1, None, 0), ("mark", END, 0)]))
        self.assertIsNone(first_apart(steps[0], steps[2], [[("mark", END, 0)]]))

    def test_apart_where_a_part_hides_the_values(self):
        for many in (2, 60):
            for word, part in (("least", -9), ("greatest", 9), ("unlike", (1, 2)), ("total", 0), ("last", None)):
                steps = []
                for value in (1, 2):
                    step = ByCount(many, sum_of(word))
                    step.lay((6, [("a", 1, part)], [(("a", 1), 6, "a", value)]))
                    steps.append(step)
                for one, other in (steps, steps[::-1]):
                    steplaw.check_apart(self, making(many, word), one, other)

    def test_the_bounds_of_point_5(self):
        for word in plainsums.WORDS:
            step = ByCount(60, sum_of(word))
            for tag in range(150):
                step.put(tag, (10 ** 10 - tag % 80, "ab"[tag % 2], 10 ** 60 - 1 - tag % 7))
            step.mark(10 ** 10 - 70)
            other = step.twin()
            other.put(75, None)
            shape = making(60, word)
            steplaw.check_touching(self, shape, step)
            steplaw.check_shaking(self, shape, step)
            for one, two in ((step, other), (other, step), (step, step.anew())):
                steplaw.check_apart(self, shape, one, two)

    def test_sums_and_many_are_handed_on_to_anew_and_twin(self):
        for word in plainsums.WORDS:
            step = ByCount(3, sum_of(word))
            for tag, value in ((1, 3), (2, 1), (3, 1), (4, 2), (5, 2), (6, 7)):
                step.put(tag, (tag, "a", value))
            step.mark(3)
            for other in (step.anew(), step.twin()):
                other.lay(step.kept())
                self.assertEqual(other.loose(), step.loose())


def lay_end(step):
    step.mark(END)
    return step


if __name__ == "__main__":
    unittest.main()
