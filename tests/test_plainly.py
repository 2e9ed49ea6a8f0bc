"""Point 31: the plain answers of a question."""

import copy
import random
import unittest

import plainnets
from weirmark.plainly import plain
from weirmark.questions import read_question, show_question

TAGS = (-1, 0, 3, ("a", 1), ("b", 0), (2, 2))


def some_standing(chance):
    tags = chance.sample(TAGS, chance.randrange(len(TAGS) + 1))
    return {tag: (chance.randrange(9), chance.choice("ab"), chance.randrange(-2, 3)) for tag in tags}


class PlainTest(unittest.TestCase):
    def test_one_of_each_kind(self):
        standings = {
            "s": {1: (5, "a", 7), 2: (6, "a", -1), 3: (6, "b", 2)},
            "t": {1: (6, "a", 10), ("x", 1): (9, "b", 20)},
        }
        for text, answer in (
            ("q pick s 0 7", {1: (5, "a", 7), 3: (6, "b", 2)}),
            ("q turn s 2 -1", {1: (5, "a", 13), 2: (6, "a", -3), 3: (6, "b", 3)}),
            ("q both t s", {
                (0, 1): (6, "a", 10), (0, ("x", 1)): (9, "b", 20), (1, 1): (5, "a", 7), (1, 2): (6, "a", -1),
                (1, 3): (6, "b", 2)}),
            ("q bytime s 3 3 count", {("a", 3): (5, "a", 1), ("a", 6): (8, "a", 1), ("b", 6): (8, "b", 1)}),
            ("q silence s 1 last", {("a", 5): (6, "a", -1), ("b", 6): (6, "b", 2)}),
            ("q count s 2 total", {("a", 0): (6, "a", 6)}),
            ("q sofar s total", {1: (5, "a", 7), 2: (6, "a", 6), 3: (6, "b", 2)}),
            ("q pairs s t 0 less", {(2, 1): (6, "a", -11)}),
            ("q lone s t 1", {3: (6, "b", 2)}),
            ("q pairs s s 0 sum", {(1, 1): (5, "a", 14), (2, 2): (6, "a", -2), (3, 3): (6, "b", 4)}),
        ):
            rows = read_question(text, ["s", "t"])
            self.assertEqual(plain(rows, standings), {"q": answer}, text)

    def test_streams_without_standings(self):
        rows = read_question("q both s t\nr sofar q count\nw lone s t 1", ["s", "t"])
        self.assertEqual(plain(rows, {}), {"q": {}, "r": {}, "w": {}})
        self.assertEqual(plain(rows, {"s": {4: (1, "a", 9)}}), {
            "q": {(0, 4): (1, "a", 9)}, "r": {(0, 4): (1, "a", 1)}, "w": {4: (1, "a", 9)}})
        self.assertEqual(plain(rows, {"t": {4: (1, "a", 9)}, "u": {1: (2, "b", 0)}})["q"], {(1, 4): (1, "a", 9)})

    def test_many_questions(self):
        chance = random.Random(5)
        for _ in range(400):
            rows = plainnets.some_rows(chance, ["s", "t"], most=8)
            self.assertEqual(read_question(show_question(rows), ["s", "t"]), rows)
            standings = {"s": some_standing(chance), "t": some_standing(chance)}
            handed = copy.deepcopy((rows, standings))
            told = plain(rows, standings)
            self.assertEqual(told, plainnets.plain_by_hand(rows, standings), rows)
            for standing in told.values():
                standing[99] = None
            self.assertEqual((rows, standings), handed)
            self.assertEqual(plain(rows, standings), plainnets.plain_by_hand(rows, standings))


if __name__ == "__main__":
    unittest.main()
