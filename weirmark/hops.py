"""Windows of one size that begin at every multiple of a hop."""

from weirmark.rows import in_order


def starts_with(size, hop, time):
    """The rising list of the starts of the windows that have the time."""
    return list(range(start_behind(hop, time - size), time + 1, hop))


def start_behind(hop, time):
    """The least multiple of hop above the time."""
    return (time // hop + 1) * hop


def end_behind(size, hop, mark):
    """The least start + size above the mark."""
    return start_behind(hop, mark - size) + size


def windows(standing, size, hop, total):
    """The plain answer: the sum of each key's rows in each window that has some."""
    gathered = {}
    for tag, row in in_order(standing):
        for start in starts_with(size, hop, row[0]):
            gathered.setdefault((row[1], start), []).append(row[2])
    return dict([(spot, (spot[1] + size - 1, spot[0], total.of(values))) for spot, values in gathered.items()])
