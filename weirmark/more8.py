"""What questions, nets and letters have in common: numbers in words, and from where a row of a question draws."""

from weirmark.errors import NoText
from weirmark.ids import is_whole
from weirmark.shows import read

TWO_SIDED = ("both", "pairs", "lone")


def number_in(word):
    """The whole number that the word shows; None where it shows none."""
    try:
        value = read(word)
    except NoText:
        return None
    return value if is_whole(value) else None


def sources_of(row):
    """The names from which the row of a question draws, one for each side of its step."""
    return row[2:4] if row[1] in TWO_SIDED else row[2:3]
