"""The plain answers of a question over what stands in its streams."""

from weirmark.both import sided
from weirmark.hops import windows
from weirmark.lots import lots, running
from weirmark.meets import alone, paired
from weirmark.more8 import sources_of
from weirmark.stills import stretched
from weirmark.sumwords import sum_of


def plain(rows, standings):
    """The dict from each step's name to its plain answer; a stream that the standings have not has no rows."""
    known = dict(standings)
    told = {}
    for row in rows:
        told[row[0]] = plain_answer(row, [known.get(source, {}) for source in sources_of(row)])
        known[row[0]] = told[row[0]]
    return told


def plain_answer(row, several):
    """The plain answer of one row of a question over the standings of its sources."""
    word = row[1]
    if word == "pick":
        return picked(several[0], row[3], row[4])
    if word == "turn":
        return turned(several[0], row[3], row[4])
    if word == "both":
        return dict(sided(list(several[0].items()), 0) + sided(list(several[1].items()), 1))
    if word == "bytime":
        return windows(several[0], row[3], row[4], sum_of(row[5]))
    if word == "silence":
        return stretched(several[0], row[3], sum_of(row[4]))
    if word == "count":
        return lots(several[0], row[3], sum_of(row[4]))
    if word == "sofar":
        return running(several[0], sum_of(row[3]))
    if word == "pairs":
        return paired(several[0], several[1], row[4], row[5])
    return alone(several[0], several[1], row[4])


def picked(standing, low, high):
    """The rows with values from low to high."""
    return dict([(tag, row) for tag, row in standing.items() if low <= row[2] <= high])


def turned(standing, times, more):
    """Each row with its value times `times` plus `more`."""
    return dict([(tag, (row[0], row[1], row[2] * times + more)) for tag, row in standing.items()])
