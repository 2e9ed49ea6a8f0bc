"""Point 23: rows parted by count, running sums, the plain answers over them."""

import copy
import random
import unittest

from plainsums import SUMS, WORDS
from weirmark.lots import lots, running
from weirmark.rows import in_order
from weirmark.sumwords import sum_of

TAGS = (-3, 0, 4, ("a", 1), ("b", 0), (2, 2), 7, 8, ((1, 1), 0), 9, 10, 11)


def rows_of(standing, key):
    return [entry for entry in in_order(standing) if entry[1][1] == key]


def lots_by_hand(standing, many, word):
    answer = {}
    for key in {row[1] for row in standing.values()}:
        rows = [row for _, row in rows_of(standing, key)]
        number = 0
        while len(rows) >= many:
            answer[(key, number)] = (rows[many - 1][0], key, SUMS[word]([row[2] for row in rows[:many]]))
            rows = rows[many:]
            number += 1
    return answer


def running_by_hand(standing, word):
    answer = {}
    for tag, (time, key, _) in standing.items():
        rows = rows_of(standing, key)
        place = [other for other, _ in rows].index(tag)
        answer[tag] = (time, key, SUMS[word]([row[2] for _, row in rows[:place + 1]]))
    return answer


def some_standing(chance):
    tags = chance.sample(TAGS, chance.randrange(len(TAGS) + 1))
    return {tag: (chance.randrange(8), chance.choice("ab"), chance.randrange(-2, 3)) for tag in tags}


class LotsTest(unittest.TestCase):
    def test_many_standings(self):
        chance = random.Random(3)
        for many in (2, 3, 5, 60):
            for word in WORDS:
                for _ in range(15):
                    standing = some_standing(chance)
                    before = copy.deepcopy(standing)
                    self.assertEqual(lots(standing, many, sum_of(word)), lots_by_hand(standing, many, word))
                    self.assertEqual(standing, before)

    def test_a_full_lot_one_less_and_one_more(self):
        for many in (2, 60):
            for size in (0, 1, many - 1, many, many + 1, 2 * many - 1, 2 * many, 2 * many + 1):
                standing = {tag: (tag, "a", tag) for tag in range(size)}
                self.assertEqual(lots(standing, many, sum_of("greatest")), {
                    ("a", number): (many * number + many - 1, "a", many * number + many - 1)
                    for number in range(size // many)})

    def test_rows_of_one_time_go_by_their_ids(self):
        standing = {("a", 1): (5, "a", 1), 9: (5, "a", 2), -1: (5, "a", 3), 4: (6, "a", 4), 3: (5, "b", 5)}
        self.assertEqual(lots(standing, 2, sum_of("last")), {("a", 0): (5, "a", 2), ("a", 1): (6, "a", 4)})

    def test_no_rows(self):
        self.assertEqual(lots({}, 2, sum_of("total")), {})

    def test_two_hundred_rows(self):
        standing = {tag: (10 ** 10, "a", 1) for tag in range(200)}
        self.assertEqual(lots(standing, 60, sum_of("total")), {
            ("a", number): (10 ** 10, "a", 60) for number in range(3)})


class RunningTest(unittest.TestCase):
    def test_many_standings(self):
        chance = random.Random(4)
        for word in WORDS:
            for _ in range(30):
                standing = some_standing(chance)
                before = copy.deepcopy(standing)
                self.assertEqual(running(standing, sum_of(word)), running_by_hand(standing, word))
                self.assertEqual(standing, before)

    def test_each_row_again_under_its_id(self):
        standing = {1: (5, "a", 1), 2: (4, "a", 2), 3: (6, "b", 4), ("a", 0): (5, "a", 8)}
        self.assertEqual(running(standing, sum_of("total")), {
            1: (5, "a", 3), 2: (4, "a", 2), 3: (6, "b", 4), ("a", 0): (5, "a", 11)})

    def test_no_rows(self):
        self.assertEqual(running({}, sum_of("last")), {})


if __name__ == "__main__":
    unittest.main()
