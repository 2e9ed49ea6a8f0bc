"""Rows that part where nothing comes for longer than a gap."""

from weirmark.rows import by_key


def stretches(rows, gap):
    """The list of the stretches of a list of (id, row) of one key in true order, each such a list."""
    parted = []
    for entry in rows:
        if parted and entry[1][0] - parted[-1][-1][1][0] <= gap:
            parted[-1].append(entry)
        else:
            parted.append([entry])
    return parted


def stretched(standing, gap, total):
    """The plain answer: the sum of each stretch of each key's rows."""
    answer = {}
    for key, rows in by_key(standing).items():
        for stretch in stretches(rows, gap):
            summed = total.of([row[2] for tag, row in stretch])
            answer[(key, stretch[0][1][0])] = (stretch[-1][1][0], key, summed)
    return answer
