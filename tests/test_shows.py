"""Points 3 and 10: values shown and read."""

import itertools
import random
import re
import unittest

from weirmark.errors import NoText, WeirError
from weirmark.shows import read, show

SHOWN = (
    (None, "_"), (0, "0"), (7, "7"), (-7, "-7"), (1234567890, "1234567890"), ("a", "a"), ("abcdefgh", "abcdefgh"),
    ((), "()"), ([], "[]"), ((1,), "(1)"), ([1], "[1]"), ((1, 2), "(1,2)"), ([None, "a", -3], "[_,a,-3]"),
    ((1, [2, (3, [])], ()), "(1,[2,(3,[])],())"), ([[], [[]]], "[[],[[]]]"), ((None,), "(_)"),
    (10 ** 300 - 1, "9" * 300), (1 - 10 ** 300, "-" + "9" * 300), ((("a", 1), (2, "b", 3)), "((a,1),(2,b,3))"),
)
REFUSED = (
    ("", 0), ("-0", 1), ("01", 1), ("-", 1), ("(1", 2), ("[1,]", 3), ("[" * 31, 30), ("(" * 31, 30),
    ("(" * 30, 30), ("[(" * 16, 30), (" ", 0), ("1 ", 1), ("(1, 2)", 3), ("(1,2", 4), ("(1,", 3), ("(1,)", 3),
    ("(,", 1), ("(,1)", 1), (",", 0), (")", 0), ("]", 0), ("(1]", 2), ("[1)", 2), ("()1", 2), ("[](", 2), ("1a", 1),
    ("a1", 1), ("aB", 1), ("A", 0), ("__", 1), ("_1", 1), ("1_", 1), ("a_", 1), ("_a", 1), ("--1", 1), ("1-", 1),
    ("-a", 1), ("-_", 1), ("+1", 0), ("00", 1), ("-00", 1), ("0-", 1), ("a-", 1), ("abcdefghi", 8), ("(abcdefghi)", 9),
    ("1" * 301, 300), ("-" + "1" * 301, 301), ("(" + "1" * 301, 301), ("1" * 300 + "a", 300), ("1\n", 1), ("\n", 0),
    ("a\n", 1), ("(a", 2), ("(_,-", 4), ("[-]", 2), ("(01)", 2), ("((1)", 4), ("[[1],", 5), ("1,2", 1), ("(1)(2)", 3),
    ("\u0661", 0), ("\u00b2", 0), ("1\u0661", 1), ("\u00e9", 0), ("a\u00e9", 1), ("~", 0), ("1.5", 1), ("{", 0),
    ("[" * 30 + "()", 30), ("[" * 30 + "1", 31), ("[" * 30 + "1,(", 32), ("[" * 30 + "]" * 29, 59),
    ("[" * 30 + "]" * 31, 60),
)
ATOM = re.compile(r"_|0|-?[1-9][0-9]{0,299}|[a-z]{1,8}")
BRACKETS = re.compile(r"\((V(,V)*)?\)|\[(V(,V)*)?\]")


def is_shown(text):
    """Point 10 by taking away brackets from within, up to thirty times."""
    runs = re.findall(r"[^\[\](),]+", text)
    if not all(ATOM.fullmatch(run) for run in runs):
        return False
    left = re.sub(r"[^\[\](),]+", "V", text)
    for _ in range(30):
        left = "".join(lift(left))
    return left == "V"


def lift(text):
    """The text with its innermost brackets, all at once, as values."""
    at = 0
    for match in BRACKETS.finditer(text):
        yield text[at:match.start()] + "V"
        at = match.end()
    yield text[at:]


def goes_on(text):
    """Whether some shown text begins with the text: by closing all that it opened."""
    closing = ""
    for sign in text:
        if sign in "([":
            closing = (")" if sign == "(" else "]") + closing
        elif sign in ")]":
            closing = closing[1:]
    return any(is_shown(text + more + closing) for more in ("", "1", "_"))


def place_of(text):
    return max(at for at in range(len(text) + 1) if at == 0 or goes_on(text[:at]))


def nested(deep, kind):
    value = kind()
    for _ in range(deep - 1):
        value = kind((value,))
    return value


def some_value(chance, deep):
    kind = chance.randrange(6 if deep else 3)
    if kind == 0:
        return None
    if kind == 1:
        return chance.choice((0, 1, -1, 10, -10 ** 59, 10 ** 299, chance.randrange(-500, 500)))
    if kind == 2:
        return chance.choice(("a", "none", "zzzzzzzz", "row"))
    parts = [some_value(chance, deep - 1) for _ in range(chance.randrange(4))]
    return tuple(parts) if kind == 3 else parts


class ShowTest(unittest.TestCase):
    def test_shown_values(self):
        for value, text in SHOWN:
            self.assertEqual(show(value), text)

    def test_read_values(self):
        for value, text in SHOWN:
            self.assertEqual(read(text), value)
            self.assertIs(type(read(text)), type(value))

    def test_values_come_back(self):
        chance = random.Random(10)
        for _ in range(2000):
            value = some_value(chance, 5)
            text = show(value)
            self.assertTrue(is_shown(text))
            self.assertEqual(repr(read(text)), repr(value))

    def test_thirty_deep(self):
        for kind in (tuple, list):
            value = nested(30, kind)
            self.assertEqual(read(show(value)), value)
            with self.assertRaises(NoText) as caught:
                read(show(nested(31, kind)))
            self.assertEqual(caught.exception.at, 30)

    def test_what_is_handed_in_stays_and_what_is_told_is_new(self):
        value = [1, [2, "a"], (3, [])]
        show(value)
        self.assertEqual(value, [1, [2, "a"], (3, [])])
        one = read("[1,[2],[]]")
        one[1].append(9)
        one[2].append(9)
        one.clear()
        self.assertEqual(read("[1,[2],[]]"), [1, [2], []])


class NoTextTest(unittest.TestCase):
    def place(self, text):
        with self.assertRaises(NoText) as caught:
            read(text)
        return caught.exception.at

    def test_places(self):
        for text, at in REFUSED:
            self.assertEqual(self.place(text), at, text)

    def test_the_refusal_is_one_of_the_programs_own(self):
        with self.assertRaises(WeirError):
            read("")

    def test_all_short_texts(self):
        # Behind a place at which nothing goes on, nothing matters: so only what went on is made longer.
        ahead = [""]
        for _ in range(6):
            longer = []
            for text, sign in itertools.product(ahead, "-01a_([,)] "):
                self.check(text + sign)
                if goes_on(text + sign):
                    longer.append(text + sign)
            ahead = longer[:3000]

    def check(self, text):
        if is_shown(text):
            self.assertEqual(show(read(text)), text)
        else:
            self.assertEqual(self.place(text), place_of(text), text)

    def test_spoiled_texts(self):
        chance = random.Random(34)
        for _ in range(1500):
            text = show(some_value(chance, 4))
            at = chance.randrange(len(text) + 1)
            sign = chance.choice("-019az_([,)] ~")
            self.check(chance.choice((text[:at] + sign + text[at + 1:], text[:at] + sign + text[at:], text[:at])))


if __name__ == "__main__":
    unittest.main()
