"""Points 2 to 5 and 15 to 18 of the steps Pick and Turn."""

import unittest

import steplaw
from weirmark.errors import BackMark, Late, NotLoose
from weirmark.passes import Pick, Turn
from weirmark.rows import END
from weirmark.runs import run
from weirmark.steps import Step

SIXTY = 10 ** 60 - 1
MILLION = 10 ** 6


def picked(low, high):
    return lambda standings: {tag: row for tag, row in standings[0].items() if low <= row[2] <= high}


def turned(times, more):
    return lambda standings: {
        tag: (time, key, value * times + more) for tag, (time, key, value) in standings[0].items()}


MAKINGS = {
    "pick": steplaw.Making(lambda: Pick(-1, 2), picked(-1, 2), (-3, -2, -1, 0, 1, 2, 3)),
    "pick one": steplaw.Making(lambda: Pick(4, 4), picked(4, 4), (3, 4, 4, 5)),
    "pick all": steplaw.Making(lambda: Pick(-SIXTY, SIXTY), picked(-SIXTY, SIXTY), (-SIXTY, 0, SIXTY)),
    "pick far": steplaw.Making(lambda: Pick(SIXTY, SIXTY), picked(SIXTY, SIXTY), (SIXTY - 1, SIXTY, -SIXTY)),
    "turn": steplaw.Making(lambda: Turn(3, -2), turned(3, -2), (-1, 0, 1, 2)),
    "turn to one": steplaw.Making(lambda: Turn(0, 7), turned(0, 7), (-1, 0, 1)),
    "turn back": steplaw.Making(lambda: Turn(-1, 0), turned(-1, 0), (-1, 0, 1)),
    "turn far": steplaw.Making(lambda: Turn(MILLION, -MILLION), turned(MILLION, -MILLION), (SIXTY, -SIXTY, 0)),
    "turn farther": steplaw.Making(lambda: Turn(-MILLION, MILLION), turned(-MILLION, MILLION), (SIXTY, -SIXTY)),
}


class LawTest(unittest.TestCase):
    def each(self):
        for name, making in MAKINGS.items():
            with self.subTest(making=name):
                yield making

    def test_interface(self):
        for making in self.each():
            steplaw.check_interface(self, making)

    def test_answers_along_deeds(self):
        for making in self.each():
            steplaw.check_deeds(self, making)

    def test_shaking_touching_apart(self):
        for making in self.each():
            steplaw.check_asking(self, making, seeds=12)

    def test_equal_keeps(self):
        for making in self.each():
            steplaw.check_equal_keeps(self, making)

    def test_the_same_in_the_end(self):
        for making in self.each():
            steplaw.check_same_in_the_end(self, making)

    def test_nothing_is_shared(self):
        for making in self.each():
            steplaw.check_nothing_shared(self, making, seeds=15)


class StepTest(unittest.TestCase):
    def test_the_class_of_all_steps(self):
        arguments = {"put": (1, None), "mark": (1,), "lay": ((0, []),), "shaking": (1,), "apart": (None,)}
        for name in steplaw.METHODS:
            with self.assertRaises(NotImplementedError):
                getattr(Step(), name)(*arguments.get(name, ()))

    def test_arguments_by_place_and_side_by_its_name(self):
        for step in (Pick(0, 9), Turn(1, 0)):
            self.assertEqual(step.put(1, (5, "a", 1), side=0), [(1, None, (5, "a", 1))])
            self.assertEqual(step.put(2, (6, "a", 1), 0), [(2, None, (6, "a", 1))])
            self.assertEqual(step.mark(6, side=0), (6, [(1, (5, "a", 1))]))
            self.assertEqual(step.mark(7, 0), (7, [(2, (6, "a", 1))]))


class PickTest(unittest.TestCase):
    def test_rows_from_low_to_high_come_go_and_change(self):
        step = Pick(2, 5)
        self.assertEqual(step.put(1, (4, "a", 2)), [(1, None, (4, "a", 2))])
        self.assertEqual(step.put(("b", 2), (4, "b", 5)), [(("b", 2), None, (4, "b", 5))])
        self.assertEqual(step.put(3, (4, "a", 1)), [])
        self.assertEqual(step.put(4, (4, "a", 6)), [])
        self.assertEqual(step.put(1, (4, "a", 2)), [])
        self.assertEqual(step.put(1, (3, "c", 3)), [(1, (4, "a", 2), (3, "c", 3))])
        self.assertEqual(step.put(1, (3, "c", 9)), [(1, (3, "c", 3), None)])
        self.assertEqual(step.put(1, (2, "c", 4)), [(1, None, (2, "c", 4))])
        self.assertEqual(step.put(("b", 2), None), [(("b", 2), (4, "b", 5), None)])
        self.assertEqual(step.put(("b", 2), None), [])
        self.assertEqual(step.kept(), (0, [(1, 2, "c", 4)]))
        self.assertEqual(step.loose(), [(1, (2, "c", 4))])

    def test_rows_that_are_not_picked_are_not_kept(self):
        step = Pick(2, 5)
        step.put(1, (4, "a", 9))
        self.assertEqual(step.kept(), Pick(2, 5).kept())
        self.assertEqual(step.kept(), (0, []))


class TurnTest(unittest.TestCase):
    def test_rows_are_kept_as_told(self):
        step = Turn(-2, 3)
        self.assertEqual(step.put(1, (4, "a", 5)), [(1, None, (4, "a", -7))])
        self.assertEqual(step.put(1, (4, "a", 6)), [(1, (4, "a", -7), (4, "a", -9))])
        self.assertEqual(step.kept(), (0, [(1, 4, "a", -9)]))
        self.assertEqual(step.mark(5), (5, [(1, (4, "a", -9))]))

    def test_times_0(self):
        step = Turn(0, 3)
        self.assertEqual(step.put(1, (4, "a", 5)), [(1, None, (4, "a", 3))])
        self.assertEqual(step.put(1, (4, "a", 6)), [])
        self.assertEqual(step.kept(), (0, [(1, 4, "a", 3)]))

    def test_more_0(self):
        step = Turn(5, 0)
        self.assertEqual(step.put(1, (4, "a", SIXTY)), [(1, None, (4, "a", 5 * SIXTY))])


class PassTest(unittest.TestCase):
    def steps(self):
        return (Pick(0, 9), Turn(1, 0))

    def test_just_at_the_mark_and_below(self):
        for step in self.steps():
            step.mark(5)
            self.assertEqual(step.put(1, (5, "a", 1)), [(1, None, (5, "a", 1))])
            kept = step.kept()
            for row in ((4, "a", 1), (0, "b", 2), (4, "a", 99)):
                for tag in (1, 2):
                    with self.assertRaises(Late):
                        step.put(tag, row)
            self.assertEqual(step.kept(), kept)

    def test_a_row_at_the_mark_is_not_fixed(self):
        for step in self.steps():
            step.put(1, (5, "a", 1))
            self.assertEqual(step.mark(5), (5, []))
            self.assertEqual(step.mark(6), (6, [(1, (5, "a", 1))]))
            self.assertEqual(step.mark(6), (6, []))

    def test_marks_told_back(self):
        for step in self.steps():
            step.put(1, (7, "a", 1))
            step.mark(5)
            for at in (4, 0):
                with self.assertRaises(BackMark):
                    step.mark(at)
            self.assertEqual(step.kept(), (5, [(1, 7, "a", 1)]))
            self.assertEqual(step.mark(5), (5, []))

    def test_end(self):
        for step in self.steps():
            step.put(2, (10 ** 10, "a", 1))
            step.put(1, (0, "a", 2))
            step.put(0, (10 ** 10, "b", 3))
            told = step.mark(END)
            self.assertEqual(told, (END, [(1, (0, "a", 2)), (0, (10 ** 10, "b", 3)), (2, (10 ** 10, "a", 1))]))
            self.assertEqual((step.kept(), step.loose(), step.touching()), ((END, []), [], None))
            self.assertEqual(step.mark(END), (END, []))
            with self.assertRaises(Late):
                step.put(1, (10 ** 11, "a", 1))
            self.assertEqual(step.put(1, None), [])

    def test_an_id_whose_row_is_fixed_is_as_a_new_one(self):
        for step in self.steps():
            step.put(1, (2, "a", 1))
            step.mark(3)
            self.assertEqual(step.put(1, None), [])
            self.assertEqual(step.put(1, (3, "a", 4)), [(1, None, (3, "a", 4))])
            self.assertEqual(step.put(1, None), [(1, (3, "a", 4), None)])

    def test_sure_rows_in_true_order(self):
        for step in self.steps():
            for tag, time in ((("a", 1), 2), (9, 2), (-4, 3), (0, 2), (3, 1), (8, 5)):
                step.put(tag, (time, "a", 0))
            told = step.mark(4)
            self.assertEqual([tag for tag, _ in told[1]], [3, 0, 9, ("a", 1), -4])
            self.assertEqual(step.loose(), [(8, (5, "a", 0))])

    def test_kept_rows_by_rising_ids(self):
        for step in self.steps():
            for tag, time in ((("a", 1), 2), (9, 7), (-4, 3), ((0, 5), 2), (0, 9)):
                step.put(tag, (time, "a", 0))
            self.assertEqual([entry[0] for entry in step.kept()[1]], [-4, 0, 9, (0, 5), ("a", 1)])

    def test_ids_that_no_loose_row_has(self):
        for step in self.steps():
            step.put(1, (2, "a", 1))
            step.put(2, (5, "a", 1))
            step.mark(3)
            for tag in (1, 3, ("a", 2)):
                with self.assertRaises(NotLoose):
                    step.shaking(tag)
            self.assertEqual(run(step, step.shaking(2))[-1][1][0][0], 2)

    def test_apart_from_either_side(self):
        for step in self.steps():
            other = step.anew()
            self.assertIsNone(step.apart(other))
            step.put(1, (5, "a", 1))
            other.put(1, (5, "a", 2))
            for one, two in ((step, other), (other, step)):
                steplaw.check_apart(self, MAKINGS["pick"], one, two)
            other.put(1, (5, "a", 1))
            self.assertIsNone(step.apart(other))
            other.mark(1)
            for one, two in ((step, other), (other, step)):
                steplaw.check_apart(self, MAKINGS["pick"], one, two)
            step.mark(END)
            for one, two in ((step, other), (other, step)):
                steplaw.check_apart(self, MAKINGS["pick"], one, two)

    def test_rows_and_marks_at_the_bounds_of_point_5(self):
        for step in self.steps():
            for tag in range(150):
                step.put(tag, (10 ** 10, "abcdefgh"[: tag % 8 + 1], tag % 10))
            step.mark(10 ** 10)
            self.assertEqual(len(step.loose()), 150)
            other = step.anew()
            other.mark(10 ** 10)
            making = MAKINGS["pick"]
            steplaw.check_touching(self, making, step)
            steplaw.check_shaking(self, making, step)
            steplaw.check_apart(self, making, step, other)
            steplaw.check_apart(self, making, other, step.anew())

    def test_touching_where_the_first_ids_and_keys_are_taken(self):
        for step in self.steps():
            for tag, key in ((-1, "a"), (-2, "b"), (-3, "c"), (("a", 1), "d"), (7, "e")):
                step.put(tag, (0, key, 0))
            deed = step.touching()[-1]
            self.assertEqual((deed[1], deed[2][:2]), (-4, (0, "f")))
            self.assertEqual(step.apart(step.anew()), [("put", -3, None, 0)])
            other = step.anew()
            other.mark(1)
            deed = other.apart(step)[-1]
            self.assertEqual((deed[1], deed[2][:2]), (-4, (0, "f")))
            self.assertEqual(step.apart(other), other.apart(step))

    def test_whole_numbers_as_ids_of_any_size(self):
        for step in self.steps():
            for tag in (-10 ** 80, 10 ** 80):
                step.put(tag, (5, "a", 1))
            steplaw.check_touching(self, MAKINGS["pick"], step)
            steplaw.check_apart(self, MAKINGS["pick"], step, step.anew())


if __name__ == "__main__":
    unittest.main()
