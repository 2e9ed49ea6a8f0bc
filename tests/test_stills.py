"""Point 21: rows parted by silence, and the plain answer over them."""

import copy
import random
import unittest

from plainsums import SUMS, WORDS
from weirmark.rows import in_order
from weirmark.stills import stretched, stretches
from weirmark.sumwords import sum_of


def rows_at(*times):
    return [(tag, (time, "a", 0)) for tag, time in enumerate(times)]


def times_of(parted):
    return [[row[0] for _, row in stretch] for stretch in parted]


def stretched_by_hand(standing, gap, word):
    """A row begins a stretch where no row of its key lies at most gap ahead of it in true order."""
    answer = {}
    for key in {row[1] for row in standing.values()}:
        rows = [row for _, row in in_order(standing) if row[1] == key]
        while rows:
            size = 1
            while size < len(rows) and rows[size][0] - rows[size - 1][0] <= gap:
                size += 1
            values = [row[2] for row in rows[:size]]
            answer[(key, rows[0][0])] = (rows[size - 1][0], key, SUMS[word](values))
            rows = rows[size:]
    return answer


class StretchesTest(unittest.TestCase):
    def test_neighbours_just_gap_apart_and_one_more(self):
        self.assertEqual(times_of(stretches(rows_at(1, 4, 7, 11, 12), 3)), [[1, 4, 7], [11, 12]])
        self.assertEqual(times_of(stretches(rows_at(1, 4, 7, 11, 12), 4)), [[1, 4, 7, 11, 12]])
        self.assertEqual(times_of(stretches(rows_at(1, 4, 7, 11, 12), 2)), [[1], [4], [7], [11, 12]])

    def test_the_entries_themselves_are_told(self):
        rows = [(("b", 1), (3, "x", 5)), (0, (4, "x", -5))]
        self.assertEqual(stretches(rows, 1), [rows])
        self.assertEqual(stretches(rows, 0), [rows[:1], rows[1:]])

    def test_gap_0_and_rows_of_one_time(self):
        self.assertEqual(times_of(stretches(rows_at(2, 2, 2, 3, 3, 5), 0)), [[2, 2, 2], [3, 3], [5]])

    def test_none_and_one(self):
        self.assertEqual(stretches([], 5), [])
        self.assertEqual(times_of(stretches(rows_at(7), 0)), [[7]])

    def test_the_greatest_gap(self):
        self.assertEqual(times_of(stretches(rows_at(0, 10 ** 6, 2 * 10 ** 6 + 1), 10 ** 6)), [
            [0, 10 ** 6], [2 * 10 ** 6 + 1]])

    def test_nothing_is_shared(self):
        rows = rows_at(1, 2, 9)
        parted = stretches(rows, 1)
        again = copy.deepcopy(parted)
        rows.clear()
        self.assertEqual(parted, again)
        rows = rows_at(1, 2, 9)
        parted = stretches(rows, 1)
        parted[0].clear()
        parted.clear()
        self.assertEqual(rows, rows_at(1, 2, 9))
        self.assertEqual(stretches(rows, 1), again)


class StretchedTest(unittest.TestCase):
    def test_many_standings(self):
        chance = random.Random(2)
        for gap in (0, 1, 2, 5, 100):
            for word in WORDS:
                for _ in range(12):
                    tags = chance.sample([-3, 0, 4, ("a", 1), ("b", 0), (2, 2), 7, 8], chance.randrange(9))
                    standing = {
                        tag: (chance.randrange(14), chance.choice("ab"), chance.randrange(-2, 3)) for tag in tags}
                    before = copy.deepcopy(standing)
                    self.assertEqual(stretched(standing, gap, sum_of(word)), stretched_by_hand(standing, gap, word))
                    self.assertEqual(standing, before)

    def test_each_key_by_itself(self):
        standing = {1: (0, "a", 1), 2: (2, "b", 2), 3: (4, "a", 3), 4: (5, "b", 4)}
        self.assertEqual(stretched(standing, 3, sum_of("total")), {
            ("a", 0): (0, "a", 1), ("a", 4): (4, "a", 3), ("b", 2): (5, "b", 6)})

    def test_a_standing_without_rows(self):
        for word in WORDS:
            self.assertEqual(stretched({}, 3, sum_of(word)), {})

    def test_the_last_of_rows_of_one_time_goes_by_their_ids(self):
        standing = {("a", 1): (5, "a", 1), 9: (5, "a", 2), -1: (5, "a", 3), 4: (4, "a", 4)}
        self.assertEqual(stretched(standing, 0, sum_of("last")), {("a", 4): (4, "a", 4), ("a", 5): (5, "a", 1)})


if __name__ == "__main__":
    unittest.main()
