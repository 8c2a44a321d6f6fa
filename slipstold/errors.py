"""All errors of the program."""


class SlipError(ValueError):
    """The base class of all errors of the program."""


class BadMachine(SlipError):
    """A part of a machine is wrong."""

    def __init__(self, part):
        self.part = part


class BadReader(SlipError):
    """The table or the hold of a reader is wrong."""

    def __init__(self, part):
        self.part = part


class NoFar(SlipError):
    """A value, or a part of it, is no far row."""

    def __init__(self, part):
        self.part = part


class NoRow(SlipError):
    """A value is no row of the machine: -1 for its kind or length, otherwise the index of the bad item."""

    def __init__(self, place):
        self.place = place


class BadScript(SlipError):
    """A value is no script: -1 for its kind or length, otherwise the index of the bad item."""

    def __init__(self, place):
        self.place = place


class NoChoice(SlipError):
    """A value is no list of choices: -1 for its kind or length, otherwise the index of the bad item."""

    def __init__(self, place):
        self.place = place


class NoPlace(SlipError):
    """A reading has no token at this index; the place is the index that was asked for."""

    def __init__(self, place):
        self.place = place


class BadRing(SlipError):
    """Looking again at a token never ends at this pair of a state and a token."""

    def __init__(self, state, token):
        self.state = state
        self.token = token


class TooMany(SlipError):
    """There are more things than the limit allows."""

    def __init__(self, limit):
        self.limit = limit


class NoText(SlipError):
    """A text is bad at this line, counted from 1; 0 stands for the whole text."""

    def __init__(self, line):
        self.line = line


class Unlike(SlipError):
    """Two things cannot be compared or joined."""


class NoConfiguration(SlipError):
    """A value is no configuration of the reader."""


class NoMeasure(SlipError):
    """A value is no measure."""


class NoStanding(SlipError):
    """A value is no standing of the reader."""


class NoNumber(SlipError):
    """A value is not the number that is due."""


class TooLow(SlipError):
    """A ratio is less than the least one that bounds the measure."""
