"""The refusals, one class for each."""


class BankError(ValueError):
    """What stands above all refusals."""


class NoWord(BankError):
    """What was asked of is no word of the table."""


class NoStart(BankError):
    """A walk has no such start."""


class NoWalk(BankError):
    """No walk comes of it: two of its cells would be alike."""


class NoOrder(BankError):
    """What was handed in is no order of lanes."""


class Clash(BankError):
    """Two words of a walk are in one bank."""


class NotSquare(BankError):
    """The table hasn't as many rows as columns."""


class BadText(BankError):
    """A text tells no dealing, or no walk."""


class NoAsk(BankError):
    """What stands in this row at this place is no word of the table."""

    def __init__(self, row, at):
        self.row = row
        self.at = at


class BadRow(BankError):
    """This row of a sheet isn't written as it should be."""

    def __init__(self, row):
        self.row = row
