"""The errors of the program: each is raised with its subject, that is, what was refused."""


class GangError(ValueError):
    """The base class of all errors that the program raises."""

    def __init__(self, subject):
        self.subject = subject


class BadShare(GangError):
    """The divisor of a share is 0, or a text is that of no share."""


class BadAmounts(GangError):
    """A row of amounts has a wrong length, or only noughts as a divisor."""


class BadSpan(GangError):
    """A span starts before hour 0 or ends before it starts."""


class BadNote(GangError):
    """A text is the text of no note; the subject is the index of its first wrong character."""


class BadRow(GangError):
    """An entry of a cluster is invalid; the subject is its part and its index."""


class BadLine(GangError):
    """A line of a text is invalid; the subject is its number."""


class BadName(GangError):
    """A string is not a name."""


class BadPolicy(GangError):
    """A word or a text is none of a policy."""


class BadHour(GangError):
    """An hour, or a number of hours, is out of its bounds."""


class BadEvent(GangError):
    """A tuple or a line is no event."""


class BadMenu(GangError):
    """A menu has a template twice, or a number out of its bounds."""


class BadCertificate(GangError):
    """A note is not that of a certificate."""


class Unknown(GangError):
    """Nothing has this name or index."""


class Taken(GangError):
    """A job of the state has this name already."""


class Full(GangError):
    """The state has as many jobs as it can have."""


class NotRunning(GangError):
    """A job waits that would have to run."""


class NoChange(GangError):
    """A machine is already as it was to become."""


class NoWindow(GangError):
    """A machine has no window that ends at this hour."""


class NoRoom(GangError):
    """There is no room; the subject shows it."""


class Busy(GangError):
    """A machine is in use in the hours of a window."""


class BadMove(GangError):
    """A move is not allowed."""


class TooWide(GangError):
    """A search would look at more than it may."""


class NoEvent(GangError):
    """A book has no event at this index."""


class NothingToUndo(GangError):
    """A keeper has fewer events than are to be taken back."""


class Refused(GangError):
    """A step refused the event at this index."""
