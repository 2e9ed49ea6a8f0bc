"""Spans: whole numbers as a rising list of (first, last), between two of which at least one number lacks."""


def spans_with(spans, first, last):
    """The spans of these numbers and of those from first to last."""
    ahead = [span for span in spans if span[1] + 1 < first]
    behind = [span for span in spans if span[0] > last + 1]
    # What is neither touches or overlaps the new span, so all of it is one.
    joined = spans[len(ahead):len(spans) - len(behind)] + [(first, last)]
    return ahead + [(min([span[0] for span in joined]), max([span[1] for span in joined]))] + behind


def spans_from(spans, at):
    """The spans of those numbers that are at or above at."""
    return [(max(first, at), last) for first, last in spans if last >= at]


def is_covered(spans, at):
    """Whether the number is among them."""
    return covers_all(spans, at, at)


def covers_all(spans, first, last):
    """Whether all numbers from first to last are among them."""
    # Two spans never touch, so numbers side by side lie in one of them.
    return any([span[0] <= first and last <= span[1] for span in spans])
