"""What every sum has."""


class Sum:
    """A sum of values; each sum stands under this class and has all of these methods of its own.

    A part is all that the sum goes by of values that lie ahead of others, None of no values. None in a value's
    place is a value of which trimmed told None.
    """

    def word(self):
        """The sum's word."""
        raise NotImplementedError("each sum has its own")

    def of(self, values):
        """The sum of a list of values that is not empty."""
        raise NotImplementedError("each sum has its own")

    def behind(self, part, value):
        """The part with one value more behind."""
        raise NotImplementedError("each sum has its own")

    def shown(self, part, values):
        """The sum of the part's values and the values of the list behind them, not both nothing."""
        raise NotImplementedError("each sum has its own")

    def weighs(self, part, value):
        """Whether the value behind the part can ever matter."""
        raise NotImplementedError("each sum has its own")

    def trimmed(self, part, value):
        """What of the value can matter where it is known that a value is there: the value, or None."""
        raise NotImplementedError("each sum has its own")

    def probe(self, part, other):
        """A value that tells the two parts apart, put behind both; None where no values do."""
        raise NotImplementedError("each sum has its own")
