"""Points 2 and 8: whole numbers, names, ids, their order, and new ones."""

import functools
import itertools
import random
import unittest

from weirmark.ids import fresh_key, id_key, is_id, is_name, is_whole, number_ahead, number_behind

NO_IDS = (
    None, True, False, "", "a", "abcdefghi", [], {}, (), (1,), (1, 2, 3), [1, 2], (1, [2, 3]), ([1, 2], 3),
    ("a", "b"), (1, "b"), ("", 1), ("A", 1), ("abcdefghi", 1), ("a", True), (True, 1), ("a", None), (None, 1),
    ((1, 2), "a"), (("a", "b"), 1), ({}, 1), ("a", (1,)), ("a", ()),
)


def deep_in_id(deep):
    tag = 7
    for _ in range(deep):
        tag = ("a", tag)
    return tag


def deep_in_head(deep):
    tag = 7
    for _ in range(deep):
        tag = (tag, 1)
    return tag


def rank(thing):
    return 0 if isinstance(thing, int) else 1 if isinstance(thing, str) else 2


def compared(one, other):
    """The order of point 8, word by word."""
    if rank(one) != rank(other):
        return -1 if rank(one) < rank(other) else 1
    if rank(one) < 2:
        return (one > other) - (one < other)
    return compared(one[0], other[0]) or compared(one[1], other[1])


def some_id(chance, deep):
    if deep == 0 or chance.random() < 0.3:
        return chance.choice((-12, -1, 0, 1, 2, 10, 10 ** 70))
    head = chance.choice(("a", "b", "ab", "z")) if chance.random() < 0.4 else some_id(chance, deep - 1)
    return (head, some_id(chance, deep - 1))


class KindsTest(unittest.TestCase):
    def test_whole_numbers(self):
        for thing in (0, 1, -1, 10 ** 12, -10 ** 400, 10 ** 5000):
            self.assertIs(is_whole(thing), True)

    def test_truths_and_other_things_are_no_whole_numbers(self):
        for thing in (True, False, None, "", "1", "a", [], [1], (), (1,), {}, {1: 2}):
            self.assertIs(is_whole(thing), False)

    def test_names(self):
        for thing in ("a", "z", "az", "abcdefgh", "none", "zzzzzzzz"):
            self.assertIs(is_name(thing), True)

    def test_other_things_are_no_names(self):
        for thing in ("", "abcdefghi", "A", "aB", "a1", "a b", " a", "a\n", "a_", "-", "`", "{", "\u00e9", "\u00df",
                      0, 1, True, None, ["a"], ("a",), {"a": 1}, [], (), "a" * 5000):
            self.assertIs(is_name(thing), False)

    def test_ids(self):
        for thing in (0, -5, 10 ** 400, ("a", 1), (1, 2), ((1, 2), 3), ("abcdefgh", ("b", -1)), (("a", 1), ("b", 2))):
            self.assertIs(is_id(thing), True)

    def test_other_things_are_no_ids(self):
        for thing in NO_IDS:
            self.assertIs(is_id(thing), False, thing)

    def test_ids_are_at_most_twelve_deep(self):
        for deep in range(13):
            self.assertIs(is_id(deep_in_id(deep)), True)
            self.assertIs(is_id(deep_in_head(deep)), True)
        for deep in (13, 14, 40):
            self.assertIs(is_id(deep_in_id(deep)), False)
            self.assertIs(is_id(deep_in_head(deep)), False)

    def test_the_deeper_one_of_the_two_counts(self):
        self.assertIs(is_id((deep_in_id(11), deep_in_head(11))), True)
        self.assertIs(is_id((deep_in_id(12), 1)), False)
        self.assertIs(is_id((1, deep_in_head(12))), False)

    def test_a_wrong_part_however_deep_is_seen(self):
        for wrong in NO_IDS:
            thing = wrong
            for _ in range(10):
                thing = ("a", thing)
            self.assertIs(is_id(thing), False, wrong)

    def test_tuples_that_have_one_thing_many_times_are_told_at_once(self):
        thing = 1
        for _ in range(40):
            thing = (thing, thing)
        self.assertIs(is_id(thing), False)


class OrderTest(unittest.TestCase):
    def test_the_order_in_one_row(self):
        rising = [
            -10 ** 80, -1, 0, 9, 10, (-1, 5), (0, -3), (0, 2), (0, ("a", 1)), (3, 0), ("a", 0), ("a", 1), ("a", (0, 0)),
            ("ab", 0), ("b", -9), ((0, 0), 0), ((0, 1), -5), ((0, ("a", 1)), 0), (("a", 1), 0), (((0, 0), 0), 0),
        ]
        for seed in range(20):
            mixed = list(rising)
            random.Random(seed).shuffle(mixed)
            self.assertEqual(sorted(mixed, key=id_key), rising)

    def test_keys_are_tuples_and_alike_only_for_the_same_id(self):
        tags = [0, 1, ("a", 0), ("a", 1), (0, 1), ((0, 1), 0), ("a", (0, 1))]
        for one, other in itertools.product(tags, tags):
            self.assertIsInstance(id_key(one), tuple)
            self.assertEqual(id_key(one) == id_key(other), one == other)

    def test_keys_order_as_point_8_tells(self):
        chance = random.Random(8)
        for _ in range(4000):
            one = some_id(chance, 4)
            other = some_id(chance, 4)
            self.assertEqual((id_key(one) > id_key(other)) - (id_key(one) < id_key(other)), compared(one, other))

    def test_keys_of_ids_twelve_deep(self):
        tags = [deep_in_id(deep) for deep in range(13)] + [deep_in_head(deep) for deep in range(1, 13)]
        self.assertEqual(sorted(tags, key=id_key), sorted(tags, key=functools.cmp_to_key(compared)))


class NewOnesTest(unittest.TestCase):
    def test_numbers_without_ids(self):
        self.assertEqual((number_ahead([]), number_behind([])), (-1, 0))

    def test_numbers_of_ids(self):
        self.assertEqual((number_ahead([5]), number_behind([5])), (4, 6))
        self.assertEqual((number_ahead([3, -4, 10]), number_behind([3, -4, 10])), (-5, 11))
        self.assertEqual((number_ahead([7, 9]), number_behind([-7, -9])), (6, -6))
        self.assertEqual((number_ahead([-10 ** 90]), number_behind([10 ** 90])), (-10 ** 90 - 1, 10 ** 90 + 1))

    def test_parts_of_tuples_are_left_aside(self):
        self.assertEqual((number_ahead([("a", -9), (-8, 3)]), number_behind([("a", 9), (8, 3)])), (-1, 0))
        self.assertEqual((number_ahead([2, ("a", -9)]), number_behind([2, ("a", 9)])), (1, 3))

    def test_fresh_keys(self):
        self.assertEqual(fresh_key([]), "a")
        self.assertEqual(fresh_key(["b", "aa"]), "a")
        self.assertEqual(fresh_key(["b", "a", "d"]), "c")
        self.assertEqual(fresh_key(["a", "a"]), "b")

    def test_fresh_keys_behind_all_shorter_ones(self):
        letters = "abcdefghijklmnopqrstuvwxyz"
        keys = list(letters)
        self.assertEqual(fresh_key(keys), "aa")
        keys += [one + other for one in letters for other in letters]
        self.assertEqual(fresh_key(keys[:27]), "ab")
        self.assertEqual(fresh_key(keys[:-1]), "zz")
        self.assertEqual(fresh_key(keys), "aaa")
        keys += ["aaa", "aab", "aac"]
        random.Random(1).shuffle(keys)
        self.assertEqual(fresh_key(keys), "aad")
        keys.remove("mn")
        self.assertEqual(fresh_key(keys), "mn")

    def test_what_is_handed_in_stays(self):
        ids = [3, ("a", 1), -2]
        keys = ["b", "a"]
        number_ahead(ids)
        number_behind(ids)
        fresh_key(keys)
        self.assertEqual((ids, keys), ([3, ("a", 1), -2], ["b", "a"]))


if __name__ == "__main__":
    unittest.main()
