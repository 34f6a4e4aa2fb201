"""The refusals, one class for each."""


class HushError(ValueError):
    """Any refusal."""


class NoName(HushError):
    """A name is none, stands twice, or names nothing that is there."""


class NoOrder(HushError):
    """Names and pairs make no order."""


class NoText(HushError):
    """A text tells nothing; line is the number of the first line that does not fit."""

    def __init__(self, line):
        self.line = line


class NoInput(HushError):
    """A program is handed values that are no input of it."""


class NoFit(HushError):
    """A program does not fit its order; faults lists why."""

    def __init__(self, faults):
        # The asker may change the list that is borne, and whoever raises keeps theirs.
        self.faults = list(faults)


class NoRow(HushError):
    """A desk is told a row that is none of its rows."""
