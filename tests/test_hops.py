"""Point 19: windows by time, and the plain answer over them."""

import copy
import random
import unittest

from plainsums import SUMS, WORDS
from weirmark.hops import end_behind, starts_with, windows
from weirmark.rows import END, in_order
from weirmark.sumwords import sum_of

SHAPES = ((1, 1), (3, 3), (10, 5), (7, 2), (2, 3), (1, 5), (60, 1), (59, 1), (120, 2), (5, 4))


def starts_by_hand(size, hop, time):
    multiples = [hop * number for number in range(-(size // hop) - 3, time // hop + 3)]
    return [start for start in multiples if start <= time <= start + size - 1]


class StartsTest(unittest.TestCase):
    def test_small_times_of_many_shapes(self):
        for size, hop in SHAPES:
            for time in range(0, 140):
                self.assertEqual(starts_with(size, hop, time), starts_by_hand(size, hop, time), (size, hop, time))

    def test_windows_that_begin_below_0(self):
        self.assertEqual(starts_with(10, 5, 0), [-5, 0])
        self.assertEqual(starts_with(10, 5, 4), [-5, 0])
        self.assertEqual(starts_with(10, 5, 5), [0, 5])
        self.assertEqual(starts_with(10, 4, 0), [-8, -4, 0])
        self.assertEqual(starts_with(10, 4, 2), [-4, 0])

    def test_size_alike_to_hop_and_below_it(self):
        self.assertEqual(starts_with(3, 3, 5), [3])
        self.assertEqual(starts_with(3, 3, 6), [6])
        self.assertEqual(starts_with(2, 3, 4), [3])
        self.assertEqual(starts_with(2, 3, 5), [])
        self.assertEqual(starts_with(1, 10 ** 6, 1), [])

    def test_sixty_hops(self):
        self.assertEqual(starts_with(60, 1, 100), list(range(41, 101)))
        self.assertEqual(starts_with(180, 3, 0), list(range(-177, 1, 3)))
        self.assertEqual(len(starts_with(10 ** 6, 16667, 10 ** 10)), 60)

    def test_great_times(self):
        self.assertEqual(starts_with(10 ** 6, 10 ** 6, 10 ** 11), [10 ** 11])
        self.assertEqual(starts_with(10 ** 6, 10 ** 6, 10 ** 11 - 1), [10 ** 11 - 10 ** 6])

    def test_told_lists_are_the_askers_own(self):
        first = starts_with(10, 5, 7)
        first.append(99)
        self.assertEqual(starts_with(10, 5, 7), [0, 5])


class EndTest(unittest.TestCase):
    def test_small_marks_of_many_shapes(self):
        for size, hop in SHAPES:
            for mark in range(0, 140):
                multiples = [hop * number for number in range(-size // hop - 3, mark // hop + 4)]
                ends = [start + size for start in multiples if start + size > mark]
                self.assertEqual(end_behind(size, hop, mark), min(ends), (size, hop, mark))

    def test_a_mark_at_an_end_one_below_and_one_above(self):
        self.assertEqual([end_behind(10, 5, mark) for mark in (9, 10, 11)], [10, 15, 15])
        self.assertEqual([end_behind(2, 3, mark) for mark in (4, 5, 6)], [5, 8, 8])
        self.assertEqual(end_behind(10, 5, 0), 5)
        self.assertEqual(end_behind(10, 4, 0), 2)
        self.assertEqual(end_behind(1, 1, END), END + 1)


def windows_by_hand(standing, size, hop, word):
    answer = {}
    for key in {row[1] for row in standing.values()}:
        rows = [row for _, row in in_order(standing) if row[1] == key]
        for start in range(-size // hop * hop - hop, max(row[0] for row in rows) + 1, hop):
            values = [row[2] for row in rows if start <= row[0] < start + size]
            if values:
                answer[(key, start)] = (start + size - 1, key, SUMS[word](values))
    return answer


class WindowsTest(unittest.TestCase):
    def test_many_standings(self):
        chance = random.Random(1)
        for size, hop in SHAPES:
            for word in WORDS:
                for _ in range(5):
                    tags = chance.sample([-3, 0, 4, ("a", 1), ("b", 0), (2, 2)], chance.randrange(7))
                    standing = {
                        tag: (chance.randrange(30), chance.choice("ab"), chance.randrange(-2, 3)) for tag in tags}
                    before = copy.deepcopy(standing)
                    self.assertEqual(
                        windows(standing, size, hop, sum_of(word)), windows_by_hand(standing, size, hop, word))
                    self.assertEqual(standing, before)

    def test_no_rows(self):
        self.assertEqual(windows({}, 10, 5, sum_of("total")), {})

    def test_rows_in_no_window(self):
        self.assertEqual(windows({1: (5, "a", 3), 2: (3, "b", 4)}, 2, 3, sum_of("total")), {("b", 3): (4, "b", 4)})

    def test_the_last_of_rows_of_one_time_goes_by_their_ids(self):
        standing = {("a", 1): (5, "a", 1), 9: (5, "a", 2), -1: (5, "a", 3), 4: (4, "a", 4)}
        self.assertEqual(windows(standing, 10, 10, sum_of("last")), {("a", 0): (9, "a", 1)})

    def test_one_more_row_than_a_step_has(self):
        standing = {tag: (10 ** 10 - tag, "abcdefgh", 10 ** 60 - 1) for tag in range(200)}
        answer = windows(standing, 10 ** 6, 10 ** 6, sum_of("total"))
        self.assertEqual(answer[("abcdefgh", 10 ** 10)], (10 ** 10 + 10 ** 6 - 1, "abcdefgh", 10 ** 60 - 1))
        self.assertEqual(answer[("abcdefgh", 10 ** 10 - 10 ** 6)], (10 ** 10 - 1, "abcdefgh", 199 * (10 ** 60 - 1)))


if __name__ == "__main__":
    unittest.main()
