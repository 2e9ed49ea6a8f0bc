"""Points 3 and 17: answers of deeds, runs, and the first unlike place."""

import unittest

from weirmark.errors import Fixed
from weirmark.passes import Pick, Turn
from weirmark.rows import END
from weirmark.runs import answer, first_apart, run, unlike_at
from weirmark.steps import Step


class Stuck(Step):
    """A step of two sides that refuses every put with Fixed, and remembers what it was handed."""

    def __init__(self):
        self.handed = []

    def put(self, tag, row, side=0):
        self.handed.append(("put", tag, row, side))
        raise Fixed()

    def mark(self, at, side=0):
        self.handed.append(("mark", at, side))
        return (at, [])


def put(tag, time, value=1):
    return ("put", tag, (time, "a", value), 0)


class AnswerTest(unittest.TestCase):
    def test_each_answer(self):
        step = Pick(0, 9)
        self.assertEqual(answer(step, put(1, 5)), ("told", [(1, None, (5, "a", 1))]))
        self.assertEqual(answer(step, ("put", 2, None, 0)), ("told", []))
        self.assertEqual(answer(step, ("mark", 6, 0)), ("marked", 6, [(1, (5, "a", 1))]))
        self.assertEqual(answer(step, put(1, 5)), ("late",))
        self.assertEqual(answer(step, ("mark", 5, 0)), ("back",))
        self.assertEqual(answer(step, ("mark", END, 0)), ("marked", END, []))
        self.assertEqual(answer(Stuck(), put(1, 5)), ("fixed",))

    def test_the_deed_is_done(self):
        step = Turn(2, 1)
        answer(step, put(1, 5))
        self.assertEqual(step.kept(), (0, [(1, 5, "a", 3)]))

    def test_the_side_is_handed_on(self):
        step = Stuck()
        deeds = [("put", 1, None, 1), ("mark", 4, 1), ("put", 2, (3, "a", 1), 0), ("mark", 5, 0)]
        for deed in deeds:
            answer(step, deed)
        self.assertEqual(step.handed, deeds)

    def test_other_errors_are_not_taken(self):
        with self.assertRaises(NotImplementedError):
            answer(Step(), put(1, 5))


class RunTest(unittest.TestCase):
    def test_the_answers_of_a_twin(self):
        step = Pick(0, 9)
        step.put(1, (5, "a", 1))
        kept = step.kept()
        deeds = [put(1, 5, 2), ("mark", 6, 0), put(3, 5), ("mark", 2, 0)]
        self.assertEqual(run(step, deeds), [
            ("told", [(1, (5, "a", 1), (5, "a", 2))]), ("marked", 6, [(1, (5, "a", 2))]), ("late",), ("back",)])
        self.assertEqual(step.kept(), kept)
        self.assertEqual(deeds, [put(1, 5, 2), ("mark", 6, 0), put(3, 5), ("mark", 2, 0)])
        self.assertEqual(run(step, []), [])

    def test_unlike_at(self):
        one = Pick(0, 9)
        other = Pick(0, 9)
        other.put(1, (5, "a", 1))
        take_back = ("put", 1, None, 0)
        self.assertIsNone(unlike_at(one, other, []))
        self.assertIsNone(unlike_at(one, other, [("mark", 3, 0), put(2, 9)]))
        self.assertEqual(unlike_at(one, other, [take_back]), 0)
        self.assertEqual(unlike_at(one, other, [("mark", 3, 0), put(2, 9), take_back, take_back]), 2)
        self.assertEqual(unlike_at(other, one, [put(2, 9), ("mark", END, 0)]), 1)
        self.assertIsNone(unlike_at(one, one, [take_back]))
        self.assertEqual((one.kept(), other.kept()), ((0, []), (0, [(1, 5, "a", 1)])))

    def test_first_apart(self):
        one = Pick(0, 9)
        other = Pick(0, 9)
        other.put(1, (5, "a", 1))
        take_back = ("put", 1, None, 0)
        end = ("mark", END, 0)
        alike = [put(2, 9), put(3, 9)]
        long_one = [put(2, 9), put(3, 9), take_back, end]
        short_one = [put(2, 9), end, put(3, 9)]
        other_short = [put(4, 9), take_back]
        self.assertIsNone(first_apart(one, other, []))
        self.assertIsNone(first_apart(one, other, [[], alike]))
        self.assertEqual(first_apart(one, other, [long_one]), long_one[:3])
        self.assertEqual(first_apart(one, other, [alike, long_one, short_one, other_short]), short_one[:2])
        self.assertEqual(first_apart(one, other, [other_short, short_one, long_one]), other_short)
        self.assertEqual(first_apart(other, one, [short_one, [take_back]]), [take_back])

    def test_what_is_told_is_the_askers_own(self):
        one = Pick(0, 9)
        other = Pick(0, 9)
        other.mark(1)
        several = [[put(1, 0)]]
        told = first_apart(one, other, several)
        told.clear()
        self.assertEqual(several, [[put(1, 0)]])
        answers = run(one, several[0])
        answers[0][1].clear()
        self.assertEqual(run(one, several[0]), [("told", [(1, None, (0, "a", 1))])])


if __name__ == "__main__":
    unittest.main()
