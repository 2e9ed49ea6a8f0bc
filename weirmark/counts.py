"""Three sums that go by a number for any values: how many, their total, and the last one."""

from weirmark.sums import Sum


class Count(Sum):
    """How many values there are."""

    def word(self):
        return "count"

    def of(self, values):
        return len(values)

    def behind(self, part, value):
        return (part or 0) + 1

    def shown(self, part, values):
        return (part or 0) + len(values)

    def weighs(self, part, value):
        return True

    def trimmed(self, part, value):
        return None

    def probe(self, part, other):
        return None if part == other else 0


class Total(Sum):
    """The values added up."""

    def word(self):
        return "total"

    def of(self, values):
        return sum(values)

    def behind(self, part, value):
        return (part or 0) + value

    def shown(self, part, values):
        return (part or 0) + sum(values)

    def weighs(self, part, value):
        return part is None or value != 0

    def trimmed(self, part, value):
        return value

    def probe(self, part, other):
        # Behind no values and behind values of the total 0 every total is the same.
        return None if (part or 0) == (other or 0) else 0


class Last(Sum):
    """The last value."""

    def word(self):
        return "last"

    def of(self, values):
        return values[-1]

    def behind(self, part, value):
        return value

    def shown(self, part, values):
        return values[-1] if values else part

    def weighs(self, part, value):
        return True

    def trimmed(self, part, value):
        return value

    def probe(self, part, other):
        # A value behind both is the last one of both.
        return None
