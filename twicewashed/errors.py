"""The errors that the program raises."""


class WashError(ValueError):
    """The base class of all errors that the program raises."""


class BadLength(WashError):
    """A count, a power or the number of powers is out of range."""


class NoShare(WashError):
    """There is no share of this number."""


class TooOften(WashError):
    """A length would get a third power of a share."""


class BadShares(WashError):
    """A number of shares or a row of shares is out of range."""


class Mismatch(WashError):
    """The arguments are not all written for the same number of shares."""


class BadBolt(WashError):
    """A room cannot be made with these bolts."""


class NoBolt(WashError):
    """There is no bolt of this number."""


class NoPiece(WashError):
    """There is no piece of this number."""


class NoSide(WashError):
    """A piece has no side of this name."""


class NoWash(WashError):
    """No washing of this bolt is still to come."""


class Stopped(WashError):
    """A deed of a list was refused; `at` is its index in the list."""

    def __init__(self, at):
        super().__init__("a deed of the list was refused, so none was done")
        self.at = at


class NoSlot(WashError):
    """There is no slot of this number."""


class Full(WashError):
    """No slot of the book is empty."""


class Clash(WashError):
    """A finding would leave no fitting row of shares; `findings` and `shares` show why."""

    def __init__(self, slot, findings, shares):
        super().__init__("the finding would leave no fitting row of shares")
        self.slot = slot
        self.findings = findings
        self.shares = shares


class BadEase(WashError):
    """An ease is out of range."""
