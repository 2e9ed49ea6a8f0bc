"""Deeds done to steps, and the answers of two steps side by side."""

from weirmark.errors import BackMark, Fixed, Late


def answer(step, deed):
    """Does the deed: ("told", changes), ("marked", out, sure), or the word of the refusal."""
    try:
        return done(step, deed)
    except Late:
        return ("late",)
    except Fixed:
        return ("fixed",)
    except BackMark:
        return ("back",)


def done(step, deed):
    """The answer of a deed that is not refused."""
    if deed[0] == "put":
        return ("told", step.put(deed[1], deed[2], deed[3]))
    marked = step.mark(deed[1], deed[2])
    return ("marked", marked[0], marked[1])


def run(step, deeds):
    """The list of the answers of a twin; the step itself stays."""
    twin = step.twin()
    return [answer(twin, deed) for deed in deeds]


def unlike_at(one, other, deeds):
    """The first place at which the two answer unlike, or None."""
    others = run(other, deeds)
    for place, told in enumerate(run(one, deeds)):
        if told != others[place]:
            return place
    return None


def first_apart(one, other, several):
    """The shortest of several lists of deeds, each cut behind its first unlike place; None where none has one."""
    shortest = None
    for deeds in several:
        place = unlike_at(one, other, deeds)
        if place is not None and (shortest is None or place + 1 < len(shortest)):
            shortest = deeds[:place + 1]
    return shortest
