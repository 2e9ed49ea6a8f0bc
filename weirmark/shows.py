"""Values shown as texts, and read again from them."""

from weirmark.errors import NoText
from weirmark.ids import LONGEST_NAME

DEEPEST_VALUE = 30
MOST_FIGURES = 300


def show(value):
    """The text of a shown value."""
    if value is None:
        return "_"
    if isinstance(value, int):
        return str(value)
    if isinstance(value, str):
        return value
    inside = ",".join([show(part) for part in value])
    if isinstance(value, tuple):
        return f"({inside})"
    return f"[{inside}]"


def read(text):
    """The value of a shown text; NoText(at) of any other one."""
    reader = Reader(text)
    value = reader.read_value(DEEPEST_VALUE)
    if reader.at < len(text):
        raise NoText(reader.at)
    return value


class Reader:
    """Reads a text from its beginning on, and goes over a sign only where some shown text goes on with it.

    So the place at which it finds no way on is the one that NoText tells.
    """

    def __init__(self, text):
        self.text = text
        self.at = 0

    def sign(self):
        """The sign at the place; behind the last one the text without signs, which stands ahead of all signs."""
        return self.text[self.at:self.at + 1]

    def go_over(self, first, last, most):
        """Goes over the signs from first to last that stand here, at most so many, and tells them."""
        start = self.at
        while self.at < start + most and first <= self.sign() <= last:
            self.at += 1
        return self.text[start:self.at]

    def read_value(self, room):
        """The value that begins here, at most room deep."""
        sign = self.sign()
        if sign == "_":
            self.at += 1
            return None
        if "a" <= sign <= "z":
            return self.go_over("a", "z", LONGEST_NAME)
        if room > 0 and sign == "(":
            return tuple(self.read_parts(")", room - 1))
        if room > 0 and sign == "[":
            return self.read_parts("]", room - 1)
        return self.read_number()

    def read_number(self):
        """The whole number that begins here; no 0 stands ahead of other figures or behind the `-`."""
        if self.sign() == "0":
            self.at += 1
            return 0
        minus = self.go_over("-", "-", 1)
        if not "1" <= self.sign() <= "9":
            raise NoText(self.at)
        return int(minus + self.go_over("0", "9", MOST_FIGURES))

    def read_parts(self, closing, room):
        """The list of the parts, each at most room deep, from the opening bracket here over the closing one."""
        self.at += 1
        parts = []
        if self.sign() != closing:
            parts.append(self.read_value(room))
            while self.sign() == ",":
                self.at += 1
                parts.append(self.read_value(room))
        if self.sign() != closing:
            raise NoText(self.at)
        self.at += 1
        return parts
