"""The desk: a house that is spoken to in lines of words."""

from weirmark.errors import NoLine
from weirmark.house import House, house_of
from weirmark.ids import is_name
from weirmark.letters import read_letter
from weirmark.more8 import number_in
from weirmark.shows import show

LINES = {
    "stream": ("name",),
    "road": ("name", "name"),
    "ask": ("name", "way", "rest"),
    "taken": ("number",),
    "letter": ("name", "number", "rest"),
    "due": ("name",),
    "mark": ("name",),
    "lates": ("name",),
    "loose": ("name",),
    "boxes": (),
    "keep": (),
    "up": ("rest",),
}
WAYS = ("early", "last")


class Desk:
    """Answers lines, each by a text."""

    def __init__(self):
        self.house = House()

    def say(self, line):
        """The answer to the line; NoLine of a text that is none."""
        words = read_line(line)
        if words[0] in ("stream", "road", "ask", "taken", "up"):
            self.tell(words)
            return "ok"
        if words[0] == "letter":
            return self.house.letter(words[1], words[2], read_letter(words[3]))
        if words[0] == "keep":
            return self.house.keep()
        return show(self.told(words))

    def tell(self, words):
        """Does a line of which nothing else is told."""
        if words[0] == "stream":
            self.house.stream(words[1])
        elif words[0] == "road":
            self.house.road(words[1], words[2])
        elif words[0] == "ask":
            self.house.ask(words[1], words[3].replace("; ", "\n"), words[2])
        elif words[0] == "taken":
            self.house.taken(words[1])
        else:
            self.house = house_of(words[1])

    def told(self, words):
        """The value that a line asks for."""
        if words[0] == "due":
            return self.house.due(words[1])
        if words[0] == "mark":
            return self.house.mark_of(words[1])
        if words[0] == "lates":
            return self.house.lates_of(words[1])
        if words[0] == "loose":
            return self.house.loose(words[1])
        return self.house.boxes()


def read_line(line):
    """The line's word and what stands behind it, in a list."""
    word = line.partition(" ")[0]
    if word not in LINES or "\n" in line:
        raise NoLine()
    # What is left behind the last of these blanks is one word, or the rest of the line with its blanks.
    words = line.split(" ", len(LINES[word]))
    if words[0] != word or len(words) != len(LINES[word]) + 1:
        raise NoLine()
    parts = [part_in(kind, one) for kind, one in zip(LINES[word], words[1:])]
    if None in parts:
        raise NoLine()
    return [word] + parts


def part_in(kind, word):
    """What the word is as a part of this kind; None where it is none."""
    if kind == "name":
        return word if is_name(word) else None
    if kind == "way":
        return word if word in WAYS else None
    if kind == "rest":
        return word
    number = number_in(word)
    return number if number is not None and 0 <= number < 10 ** 60 else None
