"""Point 32: letters as texts."""

import unittest

from weirmark.errors import NoLine
from weirmark.letters import read_letter, show_letter

LETTERS = {
    "row 5 ab -7": ("row", 5, "ab", -7),
    "amend 3 5 ab 7": ("amend", 3, 5, "ab", 7),
    "drop 0": ("drop", 0),
    "mark 12": ("mark", 12),
    "rest": ("rest",),
    "wake": ("wake",),
    "end": ("end",),
}
WRONG_NUMBERS = ("01", "+1", "-0", "1_0", "1.0", "", "a", "_", "--1", "00", "(1)", "0x1", "1\n", "\t1", "1e3", "- 1")


class LettersTest(unittest.TestCase):
    def check_refused(self, text):
        with self.assertRaises(NoLine, msg=repr(text)):
            read_letter(text)

    def test_each_kind(self):
        for text, letter in LETTERS.items():
            self.assertEqual(read_letter(text), letter)
            self.assertIs(type(read_letter(text)), tuple)
            self.assertEqual(show_letter(letter), text)

    def test_a_word_less_one_more_and_blanks(self):
        for text in LETTERS:
            words = text.split(" ")
            for place in range(len(words)):
                self.check_refused(" ".join(words[:place] + words[place + 1:]))
                self.check_refused(" ".join(words[:place] + [""] + words[place:]))
            for wrong in (text + " ", " " + text, text + " 1", text + "\n", "\n" + text, text.upper(), text + "%"):
                self.check_refused(wrong)
            for wrong in (text.replace(" ", "\t"), text.replace(" ", "\n"), text.replace(" ", ",")):
                if wrong != text:
                    self.check_refused(wrong)

    def test_the_bounds(self):
        most = 10 ** 9
        value = 10 ** 60 - 1
        for letter in (
            ("row", 0, "a", 0), ("row", most, "abcdefgh", value), ("row", 1, "row", -value), ("drop", most), ("mark", 0),
            ("amend", 0, 0, "a", -value), ("amend", most, most, "a", value), ("mark", most),
        ):
            self.assertEqual(read_letter(show_letter(letter)), letter)
        for wrong in (
            ("row", -1, "a", 0), ("row", most + 1, "a", 0), ("row", 0, "a", value + 1), ("row", 0, "a", -value - 1),
            ("amend", -1, 0, "a", 0), ("amend", most + 1, 0, "a", 0), ("amend", 0, -1, "a", 0),
            ("amend", 0, most + 1, "a", 0), ("amend", 0, 0, "a", value + 1), ("drop", -1), ("drop", most + 1),
            ("mark", -1), ("mark", most + 1),
        ):
            self.check_refused(show_letter(wrong))

    def test_numbers_are_as_shown(self):
        for number in WRONG_NUMBERS:
            for text in (
                f"row {number} a 1", f"row 1 a {number}", f"amend {number} 1 a 1", f"amend 1 {number} a 1",
                f"amend 1 1 a {number}", f"drop {number}", f"mark {number}",
            ):
                self.check_refused(text)

    def test_keys_and_words(self):
        for key in ("", "abcdefghi", "A", "a1", "1", "_", "a-b", "a\n"):
            self.check_refused(f"row 1 {key} 1")
            self.check_refused(f"amend 1 1 {key} 1")
        for text in ("", " ", "\n", "put 1", "Rest", "resting", "rest 0", "end end", "marks 1", "row"):
            self.check_refused(text)


if __name__ == "__main__":
    unittest.main()
