"""Questions: texts whose rows say each which step is done over which sources."""

from weirmark.errors import NoName, NoQuestion
from weirmark.ids import is_name
from weirmark.more8 import number_in
from weirmark.shows import show
from weirmark.sumwords import sum_of

MOST_ROWS = 8
MOST_PAIRS = 2
MOST_HOPS = 60
FORMS = {
    "pick": ("from", "value", "value"),
    "turn": ("from", "factor", "factor"),
    "both": ("from", "from"),
    "bytime": ("from", "length", "length", "sum"),
    "silence": ("from", "distance", "sum"),
    "count": ("from", "many", "sum"),
    "sofar": ("from", "sum"),
    "pairs": ("from", "from", "distance", "how"),
    "lone": ("from", "from", "distance"),
}
HOWS = ("left", "right", "sum", "less")


def read_question(text, streams):
    """The list of the rows of a question over the streams, as tuples; NoQuestion(at) of any other text."""
    known = list(streams)
    rows = []
    for at, line in enumerate(text.split("\n")):
        row = read_row(line.split(" "), known)
        if row is None or at == MOST_ROWS or pairs_in(rows + [row]) > MOST_PAIRS:
            raise NoQuestion(at)
        rows.append(row)
        known.append(row[0])
    return rows


def show_question(rows):
    """The text of a question."""
    return "\n".join([" ".join([show(part) for part in row]) for row in rows])


def pairs_in(rows):
    """How many of the rows are of pairs."""
    return len([row for row in rows if row[1] == "pairs"])


def read_row(words, known):
    """The row of a question that the words are; None where they are none."""
    form = FORMS.get(words[1]) if len(words) > 1 else None
    if form is None or len(words) != len(form) + 2 or not is_name(words[0]) or words[0] in known:
        return None
    parts = [read_part(kind, word, known) for kind, word in zip(form, words[2:])]
    if None in parts or not goes_together(words[1], parts):
        return None
    return (words[0], words[1]) + tuple(parts)


def read_part(kind, word, known):
    """What the word is as a part of this kind; None where it is none."""
    if kind == "from":
        return word if word in known else None
    if kind == "how":
        return word if word in HOWS else None
    if kind == "sum":
        return word if is_sum(word) else None
    number = number_in(word)
    return number if number is not None and is_within(kind, number) else None


def is_sum(word):
    """Whether a sum has the word."""
    try:
        sum_of(word)
    except NoName:
        return False
    return True


def is_within(kind, number):
    """Whether the number keeps to the bounds of its kind."""
    if kind == "value":
        return abs(number) < 10 ** 60
    if kind == "factor":
        return abs(number) <= 10 ** 6
    if kind == "many":
        return 2 <= number <= 60
    return (1 if kind == "length" else 0) <= number <= 10 ** 6


def goes_together(word, parts):
    """Whether the parts of a row keep to the bounds that they set one another."""
    if word == "pick":
        return parts[1] <= parts[2]
    if word == "bytime":
        return parts[1] <= MOST_HOPS * parts[2]
    return True
