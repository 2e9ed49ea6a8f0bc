"""How steps that keep (mark, parts, rows) find the deeds that they tell.

Parts stand for whatever such a step keeps of fixed rows: entries that begin with a key.
"""

from weirmark.ids import fresh_key, number_ahead
from weirmark.more3 import keys_of, standing_of, tags_of, unlike_tag
from weirmark.runs import answer, first_apart


def take_backs(tags):
    """The puts that take back the rows under the ids."""
    return [("put", tag, None, 0) for tag in tags]


def keys_in(rows):
    """The keys of a list of rows, each once; None among them is no row."""
    return sorted(set([row[1] for row in rows if row is not None]))


def tag_ahead(one, other):
    """A whole number ahead of all ids of the rows that either of two steps keeps."""
    return number_ahead(tags_of(one[2] + other[2]))


def put_ahead(kept, row):
    """The put of the row under an id ahead of all that are kept."""
    return ("put", tag_ahead(kept, kept), row, 0)


def new_key(kept):
    """A key of which the step keeps nothing."""
    return fresh_key(tags_of(kept[1]) + keys_of(kept[2]))


def until_changed(step, deeds, tag):
    """The puts up to the first that tells a change of the answer's row under the id."""
    twin = step.twin()
    for place, deed in enumerate(deeds):
        if tag in [change[0] for change in answer(twin, deed)[1]]:
            return deeds[:place + 1]
    return deeds


def apart_late(one, other):
    """Deeds that tell steps with unlike marks apart; None where they keep the same."""
    if one == other:
        return None
    # One of the two refuses it as late.
    return [("put", tag_ahead(one, other), (min(one[0], other[0]), "a", 0), 0)]


def first_unlike(ones, others):
    """The first key of two dicts under which they have not the same."""
    return min([key for key in list(ones) + list(others) if ones.get(key) != others.get(key)])


def unlike_rows(one, other):
    """The first id of which two steps keep unlike rows, and the list of its one or two rows."""
    tag = unlike_tag(one[2], other[2])
    rows = [standing_of(kept[2]).get(tag) for kept in (one, other)]
    return (tag, [row for row in rows if row is not None])


def trials_of_rows(one, other):
    """Lists of deeds for two steps that keep the same but for a row: take it back, or put such a one ahead of it."""
    found = unlike_rows(one, other)
    trials = [take_backs([found[0]])]
    for row in found[1]:
        trials.append([("put", tag_ahead(one, other), with_value(row, 0), 0)])
    return trials


def with_value(row, more):
    """The row with its value, or 0 where that is not known, and so much more."""
    return (row[0], row[1], (row[2] or 0) + more)


def apart_alone(one, other, trials):
    """Deeds that tell two steps apart: all rows of both but the one looked at taken back, then one of the trials."""
    return apart_behind(one, other, take_backs(other_tags(one.kept(), other.kept())), trials)


def apart_behind(one, other, ahead, trials):
    """Deeds that tell two steps apart: those ahead, up to the first that does it, then one of the trials."""
    ones = one.twin()
    others = other.twin()
    for place, deed in enumerate(ahead):
        if answer(ones, deed) != answer(others, deed):
            return ahead[:place + 1]
    return ahead + first_apart(ones, others, trials)


def other_tags(one, other):
    """The ids of the rows of two steps but, where their parts are alike, the first under which they are unlike."""
    tags = dict([(tag, True) for tag in tags_of(one[2] + other[2])])
    if one[1] == other[1]:
        tags.pop(unlike_tag(one[2], other[2]))
    return list(tags)
