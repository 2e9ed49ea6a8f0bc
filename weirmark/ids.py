"""Whole numbers, names and ids: what is one, in what order they stand, and which are new."""

LETTERS = "abcdefghijklmnopqrstuvwxyz"
LONGEST_NAME = 8
DEEPEST_ID = 12


def is_whole(thing):
    """Whether the thing is a whole number; truths are none."""
    return isinstance(thing, int) and not isinstance(thing, bool)


def is_name(thing):
    """Whether the thing is a text of one to eight letters."""
    if not isinstance(thing, str) or not 1 <= len(thing) <= LONGEST_NAME:
        return False
    return all([sign in LETTERS for sign in thing])


def is_id(thing):
    """Whether the thing is a whole number, or a tuple (head, id), at most twelve deep."""
    return is_id_within(thing, DEEPEST_ID)


def is_id_within(thing, room):
    """Whether the thing is an id that is at most room deep."""
    if is_whole(thing):
        return True
    if not isinstance(thing, tuple) or len(thing) != 2 or room == 0:
        return False
    return (is_name(thing[0]) or is_id_within(thing[0], room - 1)) and is_id_within(thing[1], room - 1)


def id_key(tag):
    """A tuple of the id, or of a head; Python orders these tuples as the ids are ordered."""
    # The first part keeps Python from ever comparing things of unlike kinds.
    if isinstance(tag, int):
        return (0, tag)
    if isinstance(tag, str):
        return (1, tag)
    return (2, id_key(tag[0]), id_key(tag[1]))


def number_ahead(ids):
    """One less than the least whole number among the ids, -1 where there is none."""
    return min([tag for tag in ids if is_whole(tag)], default=0) - 1


def number_behind(ids):
    """One more than the greatest whole number among the ids, 0 where there is none."""
    return max([tag for tag in ids if is_whole(tag)], default=-1) + 1


def name_at(place):
    """The name at the place, from 0, where shorter names stand first, those of one length by their letters."""
    name = ""
    left = place + 1
    while left > 0:
        left -= 1
        name = LETTERS[left % len(LETTERS)] + name
        left = left // len(LETTERS)
    return name


def fresh_key(keys):
    """The first name that is not in the list."""
    place = 0
    while name_at(place) in keys:
        place += 1
    return name_at(place)
