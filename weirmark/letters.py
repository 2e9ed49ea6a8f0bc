"""Letters as texts."""

from weirmark.errors import NoLine
from weirmark.ids import is_name
from weirmark.more8 import number_in
from weirmark.shows import show

FORMS = {
    "row": ("number", "key", "value"),
    "amend": ("number", "number", "key", "value"),
    "drop": ("number",),
    "mark": ("number",),
    "rest": (),
    "wake": (),
    "end": (),
}


def read_letter(text):
    """The letter that the text shows; NoLine of any other one."""
    words = text.split(" ")
    form = FORMS.get(words[0])
    if form is None or len(words) != len(form) + 1:
        raise NoLine()
    parts = [part_of(kind, word) for kind, word in zip(form, words[1:])]
    if None in parts:
        raise NoLine()
    return (words[0],) + tuple(parts)


def show_letter(letter):
    """The text of a letter."""
    return " ".join([show(part) for part in letter])


def part_of(kind, word):
    """What the word is as a part of this kind; None where it is none."""
    if kind == "key":
        return word if is_name(word) else None
    number = number_in(word)
    if number is None:
        return None
    fits = abs(number) < 10 ** 60 if kind == "value" else 0 <= number <= 10 ** 9
    return number if fits else None
