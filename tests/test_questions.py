"""Point 30: questions as texts."""

import copy
import unittest

from plainsums import WORDS
from test_meets import HOWS
from weirmark.errors import NoQuestion
from weirmark.questions import read_question, show_question

STREAMS = ["s", "t"]
ROWS = {
    "q pick s -5 9": ("q", "pick", "s", -5, 9),
    "q turn s -3 0": ("q", "turn", "s", -3, 0),
    "q both s t": ("q", "both", "s", "t"),
    "q bytime s 10 5 total": ("q", "bytime", "s", 10, 5, "total"),
    "q silence t 0 least": ("q", "silence", "t", 0, "least"),
    "q count s 2 last": ("q", "count", "s", 2, "last"),
    "q sofar s unlike": ("q", "sofar", "s", "unlike"),
    "q pairs s t 7 less": ("q", "pairs", "s", "t", 7, "less"),
    "q lone t s 0": ("q", "lone", "t", "s", 0),
}


class QuestionsTest(unittest.TestCase):
    def check_refused(self, text, at=0, streams=None):
        with self.assertRaises(NoQuestion, msg=repr(text)) as caught:
            read_question(text, STREAMS if streams is None else streams)
        self.assertEqual(caught.exception.at, at, repr(text))

    def check_read(self, text, streams=None):
        rows = read_question(text, STREAMS if streams is None else streams)
        self.assertEqual(show_question(rows), text)
        return rows

    def test_each_kind_of_row(self):
        for text, row in ROWS.items():
            self.assertEqual(self.check_read(text), [row])
            self.assertEqual(show_question([row]), text)

    def test_a_word_less_or_more_and_blanks(self):
        for text in ROWS:
            words = text.split(" ")
            for place in range(len(words)):
                self.check_refused(" ".join(words[:place] + words[place + 1:]))
                self.check_refused(" ".join(words[:place] + [""] + words[place:]))
                self.check_refused(" ".join(words[:place] + ["s"] + words[place:]))
            for wrong in (text + " ", " " + text, text + " 1", text + " s", text.replace(" ", "  ", 1), text.upper()):
                self.check_refused(wrong)
            self.check_refused(text.replace(" ", "\t"))

    def test_empty_rows(self):
        self.check_refused("")
        self.check_refused("\n")
        self.check_refused(" ")
        self.check_refused("q both s t\n", 1)
        self.check_refused("\nq both s t", 0)
        self.check_refused("q both s t\n\nr both s t", 1)
        self.check_refused("q both s t\r")

    def test_one_to_eight_rows(self):
        rows = [f"{name} sofar {source} count" for name, source in zip("abcdefghi", "tabcdefgh")]
        for many in range(1, 9):
            self.assertEqual(len(self.check_read("\n".join(rows[:many]))), many)
        self.check_refused("\n".join(rows), 8)
        self.check_refused("\n".join(rows[:8] + ["junk"] * 5), 8)
        self.check_refused("\n".join(rows[:3] + ["junk"] + rows[4:]), 3)

    def test_at_most_two_pairs(self):
        rows = ["a pairs s t 1 sum", "b lone s t 1", "c pairs a s 1 left", "d pairs s t 1 sum", "e pick s 0 1"]
        self.check_read("\n".join(rows[:3] + rows[4:]))
        self.check_refused("\n".join(rows), 3)
        self.check_refused("\n".join(rows[:4]), 3)

    def test_names(self):
        for name in ("a", "abcdefgh", "pick", "pairs", "sum", "total", "q"):
            self.assertEqual(self.check_read(f"{name} pick s 0 1"), [(name, "pick", "s", 0, 1)])
        for name in ("", "abcdefghi", "A", "a1", "s", "t", "a-b", "_", "0"):
            self.check_refused(f"{name} pick s 0 1")
        self.check_refused("q pick s 0 1\nq pick s 0 1", 1)
        self.check_refused("q pick s 0 1\nr pick q 0 1\nq pick r 0 1", 2)

    def test_sources(self):
        self.assertEqual(self.check_read("q pick s 0 1\nr both q q\nw pairs r t 3 right"), [
            ("q", "pick", "s", 0, 1), ("r", "both", "q", "q"), ("w", "pairs", "r", "t", 3, "right")])
        self.assertEqual(self.check_read("q pick pick 0 1", ["pick"]), [("q", "pick", "pick", 0, 1)])
        self.check_refused("q pick u 0 1")
        self.check_refused("q pick q 0 1")
        self.check_refused("q pick r 0 1\nr pick s 0 1", 0)
        self.check_refused("q both s u")
        self.check_refused("q both u s")
        self.check_refused("q lone s u 1")
        self.check_refused("q pairs s u 1 sum")
        self.check_refused("q pick s 0 1", 0, [])

    def test_the_bounds_and_one_beyond(self):
        most = 10 ** 60 - 1
        self.check_read(f"q pick s {-most} {most}")
        for low, high in ((-most - 1, 0), (0, most + 1), (1, 0), (-3, -4)):
            self.check_refused(f"q pick s {low} {high}")
        self.check_read("q pick s 4 4")
        for number in (-10 ** 6, 0, 10 ** 6):
            self.check_read(f"q turn s {number} {-number}")
        for number in (-10 ** 6 - 1, 10 ** 6 + 1):
            self.check_refused(f"q turn s {number} 0")
            self.check_refused(f"q turn s 0 {number}")
        for size, hop in ((1, 1), (10 ** 6, 10 ** 6), (60, 1), (10 ** 6, 16667), (1, 10 ** 6), (120, 2)):
            self.check_read(f"q bytime s {size} {hop} count")
        for size, hop in ((0, 1), (1, 0), (-1, 1), (10 ** 6 + 1, 10 ** 6), (1, 10 ** 6 + 1), (61, 1), (10 ** 6, 16666)):
            self.check_refused(f"q bytime s {size} {hop} count")
        for number in (0, 1, 10 ** 6):
            self.check_read(f"q silence s {number} count")
            self.check_read(f"q pairs s t {number} sum")
            self.check_read(f"q lone s t {number}")
        for number in (-1, 10 ** 6 + 1):
            self.check_refused(f"q silence s {number} count")
            self.check_refused(f"q pairs s t {number} sum")
            self.check_refused(f"q lone s t {number}")
        for number in (2, 60):
            self.check_read(f"q count s {number} count")
        for number in (1, 0, -2, 61):
            self.check_refused(f"q count s {number} count")

    def test_numbers_are_as_shown(self):
        for number in ("01", "+1", "-0", "1_0", "1.0", "1e3", "0x1", "a", "", "_", "(1)", "-", "--1", "00", "1\t"):
            self.check_refused(f"q turn s {number} 0")
            self.check_refused(f"q turn s 0 {number}")
            self.check_refused(f"q silence s {number} count")
            self.check_refused(f"q pick s {number} 9")
        self.check_refused("q silence s " + "1" * 400 + " count")

    def test_words_of_sums_and_hows(self):
        for word in WORDS:
            for row in (f"q bytime s 2 1 {word}", f"q silence s 2 {word}", f"q count s 2 {word}", f"q sofar s {word}"):
                self.check_read(row)
        for how in HOWS:
            self.check_read(f"q pairs s t 1 {how}")
        for wrong in ("", "sum", "Total", "mean", "left", "0"):
            for row in (f"q bytime s 2 1 {wrong}", f"q silence s 2 {wrong}", f"q count s 2 {wrong}", f"q sofar s {wrong}"):
                self.check_refused(row)
        for wrong in ("", "total", "Left", "more", "0"):
            self.check_refused(f"q pairs s t 1 {wrong}")
        for wrong in ("", "Pick", "picks", "q", "window", "by"):
            self.check_refused(f"q {wrong} s 0 1")

    def test_the_first_wrong_row_is_told(self):
        self.check_refused("q pick s 0 1\nr pick q 1 0\nw pick nothing 0 1", 1)
        self.check_refused("q pick s 0 1\nr pick q 0 1\nw", 2)

    def test_nothing_handed_in_is_changed_and_what_is_told_is_the_askers(self):
        streams = ["s", "t"]
        text = "\n".join(["q pick s 0 1", "r both q t"])
        rows = read_question(text, streams)
        self.assertEqual(streams, ["s", "t"])
        self.assertIs(type(rows), list)
        self.assertEqual([type(row) for row in rows], [tuple, tuple])
        handed = copy.deepcopy(rows)
        show_question(rows)
        self.assertEqual(rows, handed)
        rows.clear()
        self.assertEqual(read_question(text, streams), handed)


if __name__ == "__main__":
    unittest.main()
