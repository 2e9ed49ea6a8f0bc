"""What every step has."""


class Step:
    """A step answers a question over rows while they come; each step's own class has all of these methods."""

    def put(self, tag, row, side=0):
        """Under the id tag stands this row at the side, none where it is None; the changes of the answer."""
        raise NotImplementedError("each step has its own")

    def mark(self, at, side=0):
        """The side's mark is now at; out_mark() and the rows that became sure."""
        raise NotImplementedError("each step has its own")

    def sides(self):
        """How many sides the step has, 1 or 2."""
        raise NotImplementedError("each step has its own")

    def out_mark(self):
        """The greatest number below which no deed to come changes a row of the answer, END at most."""
        raise NotImplementedError("each step has its own")

    def loose(self):
        """The list of (id, row), in true order, of the answer's rows that were not told as sure."""
        raise NotImplementedError("each step has its own")

    def kept(self):
        """All that the step goes by: a tuple of the marks, one a side, then lists."""
        raise NotImplementedError("each step has its own")

    def lay(self, kept):
        """The step goes on from what a step of the same making kept."""
        raise NotImplementedError("each step has its own")

    def anew(self):
        """A step of the same making to which nothing came."""
        raise NotImplementedError("each step has its own")

    def twin(self):
        """A step of the same making that goes on from this one's kept()."""
        raise NotImplementedError("each step has its own")

    def shaking(self, tag):
        """Puts of which the last changes the loose row under the id tag, and none ahead does."""
        raise NotImplementedError("each step has its own")

    def touching(self):
        """Puts of which the last changes a row with the time out_mark(); None where that is END."""
        raise NotImplementedError("each step has its own")

    def apart(self, other):
        """Deeds that both steps answer alike but for the last; None where both keep the same."""
        raise NotImplementedError("each step has its own")
