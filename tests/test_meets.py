"""Point 26: pairs and lone rows, the plain answers."""

import copy
import random
import unittest

from weirmark.meets import alone, paired

HOWS = ("left", "right", "sum", "less")


def near(one, other, within):
    return one[1] == other[1] and one[0] - other[0] in range(-within, within + 1)


def value_by_hand(one, other, how):
    if how == "left":
        return one
    if how == "right":
        return other
    if how == "sum":
        return one + other
    return one - other


def paired_by_hand(ones, others, within, how):
    return {
        (tag, two): (max(one[0], other[0]), one[1], value_by_hand(one[2], other[2], how))
        for tag, one in ones.items() for two, other in others.items() if near(one, other, within)}


def alone_by_hand(ones, others, within):
    return {tag: one for tag, one in ones.items() if not [other for other in others.values() if near(one, other, within)]}


def some_standing(chance):
    tags = chance.sample((0, 1, -5, ("a", 1), (2, 3), ((0, 1), 2)), chance.randrange(7))
    return {tag: (chance.randrange(8), chance.choice("ab"), chance.choice((-3, 0, 10 ** 60 - 1))) for tag in tags}


class PairedTest(unittest.TestCase):
    def test_each_how(self):
        ones = {1: (5, "a", 7)}
        others = {2: (6, "a", 3)}
        for how, value in (("left", 7), ("right", 3), ("sum", 10), ("less", 4)):
            self.assertEqual(paired(ones, others, 1, how), {(1, 2): (6, "a", value)})
            self.assertEqual(paired(others, ones, 1, how)[(2, 1)][:2], (6, "a"))
        self.assertEqual(paired(others, ones, 1, "less"), {(2, 1): (6, "a", -4)})

    def test_times_that_differ_by_just_within_and_by_one_more(self):
        for within in (0, 1, 4, 10 ** 6):
            for apart in (within, within + 1):
                for times in ((0, apart), (apart, 0)):
                    ones = {1: (times[0], "a", 7)}
                    others = {1: (times[1], "a", 3)}
                    meets = apart == within
                    told = {(1, 1): (apart, "a", 10)} if meets else {}
                    self.assertEqual(paired(ones, others, within, "sum"), told)
                    self.assertEqual(alone(ones, others, within), {} if meets else ones)

    def test_keys_must_be_the_same(self):
        self.assertEqual(paired({1: (5, "a", 7)}, {1: (5, "b", 3)}, 9, "sum"), {})
        self.assertEqual(alone({1: (5, "a", 7)}, {1: (5, "b", 3)}, 9), {1: (5, "a", 7)})

    def test_one_row_in_several_pairs_and_rows_of_one_time(self):
        ones = {1: (5, "a", 7), ("b", 1): (5, "a", 8), 3: (9, "a", 1)}
        others = {1: (5, "a", 100), 2: (4, "a", 200)}
        self.assertEqual(paired(ones, others, 1, "sum"), {
            (1, 1): (5, "a", 107), (1, 2): (5, "a", 207), (("b", 1), 1): (5, "a", 108), (("b", 1), 2): (5, "a", 208)})
        self.assertEqual(alone(ones, others, 1), {3: (9, "a", 1)})

    def test_nothing_at_one_side_or_at_both(self):
        ones = {1: (5, "a", 7)}
        for how in HOWS:
            self.assertEqual(paired(ones, {}, 5, how), {})
            self.assertEqual(paired({}, ones, 5, how), {})
        self.assertEqual(alone(ones, {}, 5), ones)
        self.assertEqual(alone({}, ones, 5), {})
        self.assertEqual(alone({}, {}, 5), {})

    def test_many_standings(self):
        chance = random.Random(7)
        for _ in range(500):
            ones = some_standing(chance)
            others = some_standing(chance)
            handed = copy.deepcopy((ones, others))
            within = chance.choice((0, 1, 2, 5))
            for how in HOWS:
                self.assertEqual(paired(ones, others, within, how), paired_by_hand(ones, others, within, how))
            told = alone(ones, others, within)
            self.assertEqual(told, alone_by_hand(ones, others, within))
            told.clear()
            self.assertEqual((ones, others), handed)


if __name__ == "__main__":
    unittest.main()
