"""Points 11 to 13 once more, as plainly as can be: what a sum, a part, weighs and trimmed are of a list of values."""

WORDS = ("count", "total", "least", "greatest", "last", "unlike")
SUMS = {
    "count": len,
    "total": sum,
    "least": min,
    "greatest": max,
    "last": lambda values: values[-1],
    "unlike": lambda values: len(set(values)),
}


def part_of(word, values):
    """The part of a list of values."""
    if not values:
        return None
    return tuple(sorted(set(values))) if word == "unlike" else SUMS[word](values)


def weighs(word, values, value):
    """Whether the value matters behind the values: whether it is more than one of these already says."""
    if not values or word in ("count", "last"):
        return True
    if word == "total":
        return value != 0
    return part_of(word, values + [value]) != part_of(word, values)


def trimmed(word, values, value):
    """What is kept of the value where it is known that one is there."""
    if word == "count":
        return None
    if word in ("total", "last"):
        return value
    return value if weighs(word, values, value) else None
