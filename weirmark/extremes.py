"""Three sums for which a value may not matter behind others: the least, the greatest, and how many unlike ones."""

from weirmark.rows import is_row
from weirmark.sums import Sum


def known(things):
    """The things but None: no part is there, or a value that does not weigh."""
    return [thing for thing in things if thing is not None]


def value_or_none(number):
    """The number, or None where it has more figures than any value."""
    # Then no value lies beyond the one part that is there, and no values tell it from none.
    return number if is_row((0, "a", number)) else None


def unlike_values(part, values):
    """The rising list of the unlike values of the part and of the list."""
    return sorted(set(list(part or ()) + known(values)))


class Least(Sum):
    """The least value."""

    def word(self):
        return "least"

    def of(self, values):
        return min(values)

    def behind(self, part, value):
        return self.shown(part, [value])

    def shown(self, part, values):
        return min(known([part] + values))

    def weighs(self, part, value):
        return part is None or value < part

    def trimmed(self, part, value):
        return value if value is not None and self.weighs(part, value) else None

    def probe(self, part, other):
        return None if part == other else value_or_none(self.shown(part, [other]) + 1)


class Greatest(Sum):
    """The greatest value."""

    def word(self):
        return "greatest"

    def of(self, values):
        return max(values)

    def behind(self, part, value):
        return self.shown(part, [value])

    def shown(self, part, values):
        return max(known([part] + values))

    def weighs(self, part, value):
        return part is None or value > part

    def trimmed(self, part, value):
        return value if value is not None and self.weighs(part, value) else None

    def probe(self, part, other):
        return None if part == other else value_or_none(self.shown(part, [other]) - 1)


class Unlike(Sum):
    """How many unlike values there are."""

    def word(self):
        return "unlike"

    def of(self, values):
        return len(unlike_values(None, values))

    def behind(self, part, value):
        return tuple(unlike_values(part, [value]))

    def shown(self, part, values):
        return len(unlike_values(part, values))

    def weighs(self, part, value):
        return part is None or value not in part

    def trimmed(self, part, value):
        return value if value is not None and self.weighs(part, value) else None

    def probe(self, part, other):
        if part == other:
            return None
        ones = part or ()
        others = other or ()
        if len(ones) == len(others):
            return [value for value in ones if value not in others][0]
        # Where they are not equally many, a value that is new to both keeps them so.
        value = 0
        while value in ones or value in others:
            value += 1
        return value
