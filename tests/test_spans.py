"""Point 25: spans."""

import copy
import itertools
import unittest

from weirmark.spans import covers_all, is_covered, spans_from, spans_with


def numbers_of(spans):
    return {number for first, last in spans for number in range(first, last + 1)}


def spans_of(numbers):
    """Spans told number by number."""
    spans = []
    for number in sorted(numbers):
        if spans and spans[-1][1] == number - 1:
            spans[-1] = (spans[-1][0], number)
        else:
            spans.append((number, number))
    return spans


def all_spans(least, most):
    """The spans of every set of numbers from least to most."""
    numbers = range(least, most + 1)
    for many in range(len(numbers) + 1):
        for chosen in itertools.combinations(numbers, many):
            yield spans_of(chosen)


class SpansTest(unittest.TestCase):
    def test_every_way_to_add_numbers_to_small_spans(self):
        for spans in all_spans(-2, 5):
            for first in range(-4, 8):
                for last in range(first, 8):
                    wanted = spans_of(numbers_of(spans) | set(range(first, last + 1)))
                    self.assertEqual(spans_with(spans, first, last), wanted, (spans, first, last))

    def test_every_way_to_cut_and_to_ask_small_spans(self):
        for spans in all_spans(-2, 4):
            numbers = numbers_of(spans)
            for at in range(-4, 7):
                self.assertEqual(spans_from(spans, at), spans_of({one for one in numbers if one >= at}))
                self.assertIs(is_covered(spans, at), at in numbers)
                for last in range(at, 7):
                    self.assertIs(covers_all(spans, at, last), set(range(at, last + 1)) <= numbers)

    def test_spans_that_touch_overlap_and_lie_one_apart(self):
        spans = [(1, 3), (7, 9)]
        self.assertEqual(spans_with(spans, 4, 4), [(1, 4), (7, 9)])
        self.assertEqual(spans_with(spans, 5, 5), [(1, 3), (5, 5), (7, 9)])
        self.assertEqual(spans_with(spans, 6, 6), [(1, 3), (6, 9)])
        self.assertEqual(spans_with(spans, 4, 6), [(1, 9)])
        self.assertEqual(spans_with(spans, 2, 8), [(1, 9)])
        self.assertEqual(spans_with(spans, 2, 2), spans)
        self.assertEqual(spans_with(spans, 0, 12), [(0, 12)])
        self.assertEqual(spans_with(spans, 11, 12), [(1, 3), (7, 9), (11, 12)])
        self.assertEqual(spans_with(spans, -1, -1), [(-1, -1), (1, 3), (7, 9)])
        self.assertEqual(spans_with([], 5, 5), [(5, 5)])

    def test_cut_at_and_beside_their_ends(self):
        spans = [(1, 3), (7, 9)]
        self.assertEqual(spans_from(spans, 3), [(3, 3), (7, 9)])
        self.assertEqual(spans_from(spans, 4), [(7, 9)])
        self.assertEqual(spans_from(spans, 1), spans)
        self.assertEqual(spans_from(spans, 10), [])
        self.assertEqual(spans_from([], 1), [])

    def test_asked_over_a_number_that_lacks(self):
        spans = [(1, 3), (5, 9)]
        self.assertIs(covers_all(spans, 1, 9), False)
        self.assertIs(covers_all(spans, 5, 9), True)
        self.assertIs(covers_all(spans, 4, 4), False)
        self.assertIs(covers_all([], 0, 0), False)
        self.assertIs(is_covered(spans, 4), False)
        self.assertIs(is_covered([], 0), False)

    def test_long_spans_are_not_walked_number_by_number(self):
        spans = [(0, 10 ** 11)]
        self.assertEqual(spans_with(spans, 10 ** 11 + 1, 10 ** 12), [(0, 10 ** 12)])
        self.assertIs(covers_all(spans, 5, 10 ** 11), True)
        self.assertIs(covers_all(spans, 5, 10 ** 11 + 1), False)
        self.assertEqual(spans_from(spans, 10 ** 10), [(10 ** 10, 10 ** 11)])

    def test_nothing_handed_in_is_changed_and_what_is_told_is_the_askers(self):
        spans = [(1, 3), (7, 9)]
        before = copy.deepcopy(spans)
        for told in (spans_with(spans, 2, 2), spans_with(spans, 20, 20), spans_from(spans, 0), spans_from(spans, 2)):
            told.append((50, 50))
            told[0] = None
            self.assertEqual(spans, before)


if __name__ == "__main__":
    unittest.main()
