"""Rows of two sides that meet: same keys, and times that are near."""


def meet(one, other, within):
    """Whether the two rows have the same key and times that differ by within at most."""
    return one[1] == other[1] and abs(one[0] - other[0]) <= within


def asks(how, side):
    """Whether the value of a pair goes by that of the side's row."""
    return how not in ("left", "right") or how == ("left", "right")[side]


def value_of(one, other, how):
    """The value of a pair of which one has the first, the other the second value."""
    if how == "left":
        return one
    if how == "right":
        return other
    return one + other if how == "sum" else one - other


def pair_of(one, other, how):
    """The row of the answer for a pair of rows."""
    return (max(one[0], other[0]), one[1], value_of(one[2], other[2], how))


def paired(ones, others, within, how):
    """The plain answer of two standings: a row for each pair, under the id of both ids."""
    found = {}
    for tag, one in ones.items():
        for other_tag, other in others.items():
            if meet(one, other, within):
                found[(tag, other_tag)] = pair_of(one, other, how)
    return found


def alone(ones, others, within):
    """The plain answer of two standings: the first one's rows that are in no pair."""
    return dict([(tag, one) for tag, one in ones.items() if not meets_any(one, others, within)])


def meets_any(row, others, within):
    """Whether the row meets one of the standing."""
    return any([meet(row, other, within) for other in others.values()])
