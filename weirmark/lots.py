"""Rows parted by count, and sums up to each row."""

from weirmark.rows import by_key


def lots(standing, many, total):
    """The plain answer: the sum of each full lot of so many of a key's rows, the lots numbered from 0."""
    answer = {}
    for key, rows in by_key(standing).items():
        for number in range(len(rows) // many):
            lot = [row for tag, row in rows[number * many:number * many + many]]
            answer[(key, number)] = (lot[-1][0], key, total.of([row[2] for row in lot]))
    return answer


def running(standing, total):
    """The plain answer: under each id the sum of the rows of its key up to it."""
    answer = {}
    for key, rows in by_key(standing).items():
        part = None
        for tag, row in rows:
            part = total.behind(part, row[2])
            answer[tag] = (row[0], key, total.shown(part, []))
    return answer
