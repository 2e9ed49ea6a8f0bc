"""Points 2, 3, 8 and 9: rows, END, the true order, and changes between standings."""

import random
import unittest

from weirmark.rows import END, by_key, changed, in_order, is_row, laid_on

IDS = (-3, 0, 1, 2, 11, (0, 1), ("a", -1), ("a", 5), ("b", (1, 2)), ((1, 1), 0))
FIGURES = 10 ** 300 - 1


def some_standing(chance):
    rows = {}
    for tag in IDS:
        if chance.random() < 0.6:
            rows[tag] = (chance.randrange(4), chance.choice("ab"), chance.randrange(3))
    return rows


class RowTest(unittest.TestCase):
    def test_end(self):
        self.assertEqual(END, 10 ** 12)
        self.assertIs(type(END), int)

    def test_rows(self):
        for thing in ((0, "a", 0), (10 ** 11, "abcdefgh", -5), (3, "b", FIGURES), (3, "b", -FIGURES)):
            self.assertIs(is_row(thing), True)

    def test_times_beyond(self):
        for time in (-1, 10 ** 11 + 1, END, -10 ** 11):
            self.assertIs(is_row((time, "a", 0)), False)

    def test_values_of_three_hundred_and_one_figures(self):
        for value in (10 ** 300, -10 ** 300, 10 ** 4000):
            self.assertIs(is_row((0, "a", value)), False)

    def test_truths_are_no_whole_numbers(self):
        self.assertIs(is_row((True, "a", 0)), False)
        self.assertIs(is_row((0, "a", False)), False)
        self.assertIs(is_row((0, True, 0)), False)

    def test_other_things(self):
        for thing in (None, 0, True, "", "abc", [], {}, (), (0,), (0, "a"), (0, "a", 0, 0), [0, "a", 0], (0, "", 0),
                      (0, "abcdefghi", 0), (0, "A", 0), (0, 1, 0), ("a", 0, 0), (0, "a", "a"), (None, "a", 0),
                      (0, None, 0), (0, "a", None), (0, "a", [0]), ((0,), "a", 0), (0, ("a",), 0)):
            self.assertIs(is_row(thing), False, thing)


class OrderTest(unittest.TestCase):
    def test_by_time_then_by_id(self):
        standing = {("a", 1): (5, "b", 1), 7: (5, "a", 9), 3: (9, "a", 0), -1: (5, "c", 2), (2, 2): (0, "z", 0)}
        self.assertEqual(in_order(standing), [
            ((2, 2), (0, "z", 0)), (-1, (5, "c", 2)), (7, (5, "a", 9)), (("a", 1), (5, "b", 1)), (3, (9, "a", 0))])

    def test_without_things(self):
        self.assertEqual(in_order({}), [])
        self.assertEqual(changed({}, {}), [])
        self.assertEqual(laid_on({}, []), {})

    def test_told_lists_are_the_askers_own(self):
        standing = {1: (5, "a", 1), 0: (6, "a", 1)}
        told = in_order(standing)
        self.assertIs(type(told), list)
        self.assertIs(type(told[0]), tuple)
        told.clear()
        self.assertEqual(in_order(standing), [(1, (5, "a", 1)), (0, (6, "a", 1))])


class ByKeyTest(unittest.TestCase):
    def test_each_keys_rows_in_true_order(self):
        chance = random.Random(5)
        for _ in range(40):
            standing = some_standing(chance)
            found = by_key(standing)
            self.assertEqual(set(found), {row[1] for row in standing.values()})
            for key, entries in found.items():
                self.assertEqual(entries, [entry for entry in in_order(standing) if entry[1][1] == key])
        self.assertEqual(by_key({}), {})


class ChangesTest(unittest.TestCase):
    def test_all_three_kinds_by_rising_ids(self):
        before = {("a", 1): (1, "a", 1), 4: (2, "a", 2), 10: (3, "a", 3), 2: (4, "a", 4)}
        after = {10: (3, "b", 3), 4: (2, "a", 2), ("a", 1): (1, "a", 9), -1: (0, "a", 0)}
        self.assertEqual(changed(before, after), [
            (-1, None, (0, "a", 0)), (2, (4, "a", 4), None), (10, (3, "a", 3), (3, "b", 3)),
            (("a", 1), (1, "a", 1), (1, "a", 9))])

    def test_alike_standings_in_another_order(self):
        one = {1: (1, "a", 1), 2: (2, "a", 2)}
        other = {2: (2, "a", 2), 1: (1, "a", 1)}
        self.assertEqual(changed(one, other), [])

    def test_each_part_of_a_row_counts(self):
        for row in ((2, "a", 1), (1, "b", 1), (1, "a", 2)):
            self.assertEqual(changed({0: (1, "a", 1)}, {0: row}), [(0, (1, "a", 1), row)])

    def test_laid_on(self):
        standing = {1: (1, "a", 1), 2: (2, "a", 2), 3: (3, "a", 3)}
        changes = [(3, None, None), (1, (9, "z", 9), (5, "b", 5)), (7, (1, "a", 1), (7, "a", 7)), (8, None, None)]
        self.assertEqual(laid_on(standing, changes), {1: (5, "b", 5), 2: (2, "a", 2), 7: (7, "a", 7)})

    def test_the_one_undoes_the_other_in_whatever_order(self):
        chance = random.Random(9)
        for _ in range(300):
            before = some_standing(chance)
            after = some_standing(chance)
            changes = changed(before, after)
            self.assertEqual([change[0] for change in changes], [tag for tag in IDS if before.get(tag) != after.get(tag)])
            chance.shuffle(changes)
            self.assertEqual(laid_on(before, changes), after)
            self.assertEqual(laid_on(after, [(tag, new, old) for tag, old, new in changes]), before)

    def test_what_is_handed_in_stays_and_what_is_told_is_new(self):
        before = {1: (1, "a", 1), 2: (2, "a", 2)}
        after = {2: (2, "a", 3), 3: (3, "a", 3)}
        changes = changed(before, after)
        laid = laid_on(before, changes)
        self.assertEqual(before, {1: (1, "a", 1), 2: (2, "a", 2)})
        self.assertEqual(after, {2: (2, "a", 3), 3: (3, "a", 3)})
        self.assertEqual(changes, [(1, (1, "a", 1), None), (2, (2, "a", 2), (2, "a", 3)), (3, None, (3, "a", 3))])
        laid[9] = (9, "a", 9)
        same = laid_on(before, [])
        same[9] = (9, "a", 9)
        self.assertNotIn(9, before)
        changes.clear()
        self.assertEqual(len(changed(before, after)), 3)
        before.clear()
        self.assertEqual(laid, {2: (2, "a", 3), 3: (3, "a", 3), 9: (9, "a", 9)})


if __name__ == "__main__":
    unittest.main()
