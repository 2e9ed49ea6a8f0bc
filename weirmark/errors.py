"""The refusals, each a class of its own under WeirError."""


class WeirError(ValueError):
    """Any refusal."""


class Late(WeirError):
    """A row lies below the mark of its side or stream."""


class Fixed(WeirError):
    """The row that is kept under the id can no more be changed."""


class BackMark(WeirError):
    """A mark lies below the one that was told before it."""


class NotLoose(WeirError):
    """No loose row has the id."""


class NoText(WeirError):
    """The text is no shown text: none begins with more than its first `at` signs."""

    def __init__(self, at):
        self.at = at


class NoName(WeirError):
    """Nothing is known under the name."""

    def __init__(self, name):
        self.name = name


class NoRoad(WeirError):
    """The road was not begun."""

    def __init__(self, name):
        self.name = name


class Taken(WeirError):
    """The name is in use."""

    def __init__(self, name):
        self.name = name


class Gap(WeirError):
    """The letter's number is above the wanted one."""

    def __init__(self, wanted):
        self.wanted = wanted


class Ended(WeirError):
    """Nothing comes any more by the road or in the stream."""


class Begun(WeirError):
    """A letter counted, so nothing more can be told of streams, roads and questions."""


class NoQuestion(WeirError):
    """The row at the place `at` is no row of a question."""

    def __init__(self, at):
        self.at = at


class NoKeep(WeirError):
    """The text is not one that a keep told."""


class NoLine(WeirError):
    """The text is no letter, or no line for the desk."""


class Untaken(WeirError):
    """The box is not closed yet: the wanted number is that of the last closed one."""

    def __init__(self, wanted):
        self.wanted = wanted
