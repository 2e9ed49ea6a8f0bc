"""Points 3, 4 and 11 to 14: the six sums, their parts, and sums by their words."""

import itertools
import random
import unittest

from weirmark.counts import Count, Last, Total
from weirmark.errors import NoName
from weirmark.extremes import Greatest, Least, Unlike
from weirmark.rows import is_row
from weirmark.sums import Sum
from weirmark.sumwords import sum_of

CLASSES = {"count": Count, "total": Total, "least": Least, "greatest": Greatest, "last": Last, "unlike": Unlike}
PLAINLY = {
    "count": len, "total": sum, "least": min, "greatest": max, "last": lambda values: values[-1],
    "unlike": lambda values: len(set(values)),
}
METHODS = {
    "word": (), "of": ([1],), "behind": (None, 1), "shown": (None, [1]), "weighs": (None, 1), "trimmed": (None, 1),
    "probe": (None, 1),
}
SIXTY = 10 ** 60 - 1
MOST = 10 ** 300 - 1


def part_of(total, values):
    part = None
    for value in values:
        part = total.behind(part, value)
    return part


def plain_part(word, values):
    if not values:
        return None
    return tuple(sorted(set(values))) if word == "unlike" else PLAINLY[word](values)


def some_values(chance, least, most):
    wide = chance.choice((2, 4, 50, SIXTY))
    return [chance.randint(-wide, wide) for _ in range(chance.randint(least, most))]


def short_lists(values, least, most):
    for size in range(least, most + 1):
        for several in itertools.product(values, repeat=size):
            yield list(several)


class SumTest(unittest.TestCase):
    def each(self):
        for word in CLASSES:
            with self.subTest(word=word):
                yield word, sum_of(word)

    def test_each_method_is_there_and_each_sum_has_its_own(self):
        for name, arguments in METHODS.items():
            with self.assertRaises(NotImplementedError):
                getattr(Sum(), name)(*arguments)
            for kind in CLASSES.values():
                self.assertIn(name, vars(kind))

    def test_words_and_classes(self):
        for word, kind in CLASSES.items():
            self.assertIs(type(sum_of(word)), kind)
            self.assertTrue(issubclass(kind, Sum))
            self.assertEqual(kind().word(), word)
            self.assertIsNot(sum_of(word), sum_of(word))

    def test_any_other_text_is_refused(self):
        for word in ("", "sum", "Count", "counts", "count ", " count", "coun", "total\n", "least greatest", "abcdefghi"):
            with self.assertRaises(NoName) as caught:
                sum_of(word)
            self.assertEqual(caught.exception.name, word)

    def test_sums_of_written_lists(self):
        told = {word: sum_of(word).of([4, -7, 4, 0, 12, -7, 3]) for word in CLASSES}
        self.assertEqual(told, {"count": 7, "total": 9, "least": -7, "greatest": 12, "last": 3, "unlike": 5})

    def test_sums_of_lists(self):
        chance = random.Random(11)
        lists = [some_values(chance, 1, 9) for _ in range(200)] + [some_values(chance, 200, 200) for _ in range(5)]
        lists += [[0], [-1], [SIXTY], [-SIXTY], [SIXTY] * 200, [-SIXTY, SIXTY], [0, 0], list(range(200))]
        for word, total in self.each():
            for values in lists:
                self.assertEqual(total.of(values), PLAINLY[word](values))

    def test_parts(self):
        chance = random.Random(12)
        for word, total in self.each():
            for _ in range(200):
                values = some_values(chance, 1, 6)
                self.assertEqual(part_of(total, values), plain_part(word, values))

    def test_parts_of_many_values(self):
        for word, total in self.each():
            values = [value * (-1) ** value * 10 ** 57 for value in range(200)]
            self.assertEqual(part_of(total, values), plain_part(word, values))
            self.assertEqual(total.shown(part_of(total, values[:100]), values[100:]), PLAINLY[word](values))

    def test_shown_behind_parts(self):
        chance = random.Random(13)
        for word, total in self.each():
            for _ in range(300):
                ahead = some_values(chance, 0, 5)
                behind = some_values(chance, 0 if ahead else 1, 5)
                self.assertEqual(total.shown(part_of(total, ahead), behind), PLAINLY[word](ahead + behind))

    def test_behind_none_is_the_sum_and_behind_nothing_more_the_parts(self):
        for word, total in self.each():
            self.assertEqual(total.shown(None, [0]), PLAINLY[word]([0]))
            self.assertEqual(total.shown(total.behind(None, 0), []), PLAINLY[word]([0]))

    def test_what_is_handed_in_stays(self):
        for _, total in self.each():
            values = [3, -1, 3]
            total.of(values)
            total.shown(None, values)
            total.shown(part_of(total, [5]), values)
            self.assertEqual(values, [3, -1, 3])


class WeighTest(unittest.TestCase):
    def told(self, method, part, value):
        parts = {word: part for word in CLASSES}
        if part is not None:
            parts["unlike"] = (part,)
        return [getattr(sum_of(word), method)(parts[word], value) for word in CLASSES]

    def test_behind_no_values_all_weigh(self):
        for value in (0, 1, -SIXTY, MOST):
            self.assertEqual(self.told("weighs", None, value), [True] * 6)
            self.assertEqual(self.told("trimmed", None, value), [None] + [value] * 5)

    def test_behind_a_value(self):
        # In the order count, total, least, greatest, last, unlike.
        self.assertEqual(self.told("weighs", 5, 5), [True, True, False, False, True, False])
        self.assertEqual(self.told("weighs", 5, 4), [True, True, True, False, True, True])
        self.assertEqual(self.told("weighs", 5, 6), [True, True, False, True, True, True])
        self.assertEqual(self.told("weighs", -5, 0), [True, False, False, True, True, True])
        self.assertEqual(self.told("weighs", 0, 0), [True, False, False, False, True, False])
        self.assertEqual(self.told("trimmed", 5, 5), [None, 5, None, None, 5, None])
        self.assertEqual(self.told("trimmed", 5, 4), [None, 4, 4, None, 4, 4])
        self.assertEqual(self.told("trimmed", 5, 6), [None, 6, None, 6, 6, 6])
        self.assertEqual(self.told("trimmed", -5, 0), [None, 0, None, 0, 0, 0])

    def test_truths_are_truths(self):
        for part, value in ((None, 0), (5, 5), (5, 0), (-5, 0)):
            for truth in self.told("weighs", part, value):
                self.assertIsInstance(truth, bool)

    def test_of_none_nothing_is_left(self):
        for part in (None, 0, 5, -SIXTY):
            self.assertEqual(self.told("trimmed", part, None), [None] * 6)

    def test_unlike_looks_through_its_whole_part(self):
        for value in (-2, 3, SIXTY):
            self.assertIs(Unlike().weighs((-2, 3, SIXTY), value), False)
            self.assertIsNone(Unlike().trimmed((-2, 3, SIXTY), value))
        self.assertIs(Unlike().weighs((-2, 3, SIXTY), 4), True)
        self.assertEqual(Unlike().trimmed((-2, 3, SIXTY), 4), 4)

    def test_what_does_not_weigh_never_matters(self):
        for word in CLASSES:
            if word == "last":
                continue
            total = sum_of(word)
            for ahead in short_lists((-1, 0, 1), 1, 2):
                for value in (-1, 0, 1):
                    if total.weighs(part_of(total, ahead), value):
                        continue
                    for behind in short_lists((-2, 0, 2), 0, 3):
                        for place in range(len(behind) + 1):
                            among = behind[:place] + [value] + behind[place:]
                            self.assertEqual(PLAINLY[word](ahead + among), PLAINLY[word](ahead + behind))

    def test_none_may_stand_where_trimmed_tells_it(self):
        chance = random.Random(14)
        for word in CLASSES:
            total = sum_of(word)
            for _ in range(500):
                ahead = some_values(chance, 0 if word == "count" else 1, 3)
                behind = some_values(chance, 1, 6)
                first = part_of(total, ahead)
                with_none = [total.trimmed(first, value) for value in behind]
                cut = chance.randint(0, len(behind))
                part = first
                for value in with_none[:cut]:
                    part = total.behind(part, value)
                self.assertEqual(part, plain_part(word, ahead + behind[:cut]))
                self.assertEqual(total.shown(part, with_none[cut:]), PLAINLY[word](ahead + behind))

    def test_none_in_written_places(self):
        self.assertEqual(Least().behind(3, None), 3)
        self.assertEqual(Greatest().behind(3, None), 3)
        self.assertEqual(Unlike().behind((3, 4), None), (3, 4))
        self.assertEqual(Count().behind(3, None), 4)
        self.assertEqual(Count().behind(None, None), 1)
        self.assertEqual(Count().shown(None, [None, None]), 2)
        self.assertEqual(Least().shown(0, [None, -1, None]), -1)
        self.assertEqual(Greatest().shown(0, [None]), 0)
        self.assertEqual(Unlike().shown((3, 4), [None, 5, None, 5]), 3)


class ProbeTest(unittest.TestCase):
    def check(self, word, ones, others):
        total = sum_of(word)
        part = part_of(total, ones)
        other = part_of(total, others)
        told = total.probe(part, other)
        if told is None:
            for behind in short_lists((-3, -1, 0, 1, 2, 5), 1, 2):
                self.assertEqual(total.shown(part, behind), total.shown(other, behind), (word, part, other, behind))
            return
        self.assertTrue(is_row((0, "a", told)), told)
        for times in (1, 2, 3, 7, 100):
            unlike = total.shown(part, [told] * times) != total.shown(other, [told] * times)
            self.assertTrue(unlike, (word, part, other, told, times))

    def test_probes_of_short_lists(self):
        lists = list(short_lists((-1, 0, 1), 0, 3))
        for word in CLASSES:
            for ones, others in itertools.product(lists, lists):
                self.check(word, ones, others)

    def test_probes_of_other_lists(self):
        chance = random.Random(15)
        for word in CLASSES:
            for _ in range(500):
                self.check(word, some_values(chance, 0, 6), some_values(chance, 0, 6))

    def test_parts_that_are_alike(self):
        for word in CLASSES:
            for values in ([], [0], [5, -5], [SIXTY, 3]):
                part = part_of(sum_of(word), values)
                self.assertIsNone(sum_of(word).probe(part, part))

    def test_the_total_0_and_no_values(self):
        self.assertIsNone(Total().probe(None, 0))
        self.assertIsNone(Total().probe(0, None))
        self.assertIsNotNone(Total().probe(None, 1))

    def test_last_is_never_told_apart(self):
        for part, other in ((None, 1), (1, 2), (1, None)):
            self.assertIsNone(Last().probe(part, other))

    def test_parts_of_which_no_value_lies_beyond(self):
        # No value is greater than MOST, so behind the part MOST the least is that of the values behind.
        self.assertIsNone(Least().probe(MOST, None))
        self.assertIsNone(Least().probe(None, MOST))
        self.assertIsNone(Greatest().probe(-MOST, None))
        self.assertIsNone(Greatest().probe(None, -MOST))
        self.assertEqual(Least().probe(MOST - 1, None), MOST)
        self.assertEqual(Greatest().probe(None, 1 - MOST), -MOST)
        self.check("least", [-MOST], [])
        self.check("greatest", [], [MOST])
        self.check("unlike", [MOST, -MOST], [])
        self.check("unlike", [MOST], [-MOST])

    def test_new_values_beside_many(self):
        self.check("unlike", list(range(200)), list(range(100)))
        self.check("unlike", list(range(200)), list(range(1, 201)))
        self.check("unlike", [], list(range(-100, 100)))


if __name__ == "__main__":
    unittest.main()
