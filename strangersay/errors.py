"""The refusals: each stands straight under CrowdError.

What is refused may be anything, so the messages never show it.
"""


class CrowdError(ValueError):
    """Something was refused."""


class NoSort(CrowdError):
    """This is no number of a sort."""

    def __init__(self, thing):
        super().__init__("this is no number of a sort")
        self.thing = thing


class NoState(CrowdError):
    """This is no state that is wanted here."""

    def __init__(self, thing):
        super().__init__("this is no state that is wanted here")
        self.thing = thing


class NoCount(CrowdError):
    """This is no whole number from 1."""

    def __init__(self, thing):
        super().__init__("this is no whole number from 1")
        self.thing = thing


class NoOne(CrowdError):
    """Fewer than so many are in this member's state."""

    def __init__(self, member):
        super().__init__("not so many are in this state")
        self.member = member


class NoMeeting(CrowdError):
    """The part of a row with this number can't be done."""

    def __init__(self, at):
        super().__init__("a part of the row can't be done")
        self.at = at


class NoDeed(CrowdError):
    """The deed with this number has none of the forms of a deed."""

    def __init__(self, at):
        super().__init__("a deed has none of the forms of a deed")
        self.at = at


class NoText(CrowdError):
    """The row of a text with this number isn't written as it should be."""

    def __init__(self, row):
        super().__init__("a row of the text is not written as it should be")
        self.row = row


class NoRow(CrowdError):
    """This is no row of meetings."""


class Full(CrowdError):
    """More members would be there than there may be."""


class NoBack(CrowdError):
    """No deed stands that could be taken back."""


class NoLine(CrowdError):
    """This is no line that the desk knows."""


class TooMany(CrowdError):
    """There are more of them than are told."""
