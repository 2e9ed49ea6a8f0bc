"""Rows under ids: what a row is, their true order, and what differs between two standings."""

from weirmark.ids import id_key, is_name, is_whole

END = 1000000000000
LATEST = 100000000000


def is_value(thing):
    """Whether the thing is a whole number of at most three hundred figures."""
    beyond = (10 ** 60) ** 5
    return is_whole(thing) and -beyond < thing < beyond


def is_row(thing):
    """Whether the thing is a tuple (time, key, value)."""
    if not isinstance(thing, tuple) or len(thing) != 3:
        return False
    return is_whole(thing[0]) and 0 <= thing[0] <= LATEST and is_name(thing[1]) and is_value(thing[2])


def true_place(entry):
    """What the true order goes by, of (id, row)."""
    return (entry[1][0], id_key(entry[0]))


def in_order(standing):
    """The list of (id, row) of the standing in true order: by time, then by id."""
    return sorted(standing.items(), key=true_place)


def by_key(standing):
    """The dict from each key of the standing to the list of (id, row) of its rows, in true order."""
    found = {}
    for entry in in_order(standing):
        found.setdefault(entry[1][1], []).append(entry)
    return found


def changed(before, after):
    """The list of (id, old, new), rising ids, of the ids under which two standings have not the same."""
    tags = sorted(list(before) + [tag for tag in after if tag not in before], key=id_key)
    return [(tag, before.get(tag), after.get(tag)) for tag in tags if before.get(tag) != after.get(tag)]


def laid_on(standing, changes):
    """The standing in which each id of the changes has its new row, or none."""
    after = dict(standing)
    for tag, old, new in changes:
        if new is None:
            after.pop(tag, None)
        else:
            after[tag] = new
    return after
