"""The refusals of the program, one class for each."""


class RingError(ValueError):
    """Any refusal."""


class BadHouses(RingError):
    """A count of houses that there is not."""


class BadLines(RingError):
    """Lines that no cover has."""


class BadCover(RingError):
    """A cover that is none, or one cover too many."""


class BadCrowns(RingError):
    """A number of crowns beyond its bounds."""


class BadLosses(RingError):
    """Losses that no table has."""


class BadAccount(RingError):
    """A list that is no account of the table."""


class Unbacked(RingError):
    """An account with a bill that is greater than what its cover asks."""


class Short(RingError):
    """An account with a bill that is less than what its cover asks."""


class Disagrees(RingError):
    """An account with a bill that is not what its cover asks."""


class NoHouse(RingError):
    """A number that no house has."""


class NoCover(RingError):
    """A number that no cover has."""


class NoHappening(RingError):
    """A number that no standing happening has."""


class NoLoss(RingError):
    """A number that no standing loss has."""


class BadDay(RingError):
    """A day that there is not."""


class BadTerms(RingError):
    """Terms that no cover is signed by."""


class Endless(RingError):
    """A stop that was to be ended on a day."""


class Same(RingError):
    """A happening that was to be found one with itself."""


class Full(RingError):
    """One cover, happening or loss more than a ring holds."""


class BadDeed(RingError):
    """A row that is no deed."""


class Nothing(RingError):
    """No deed is there to be taken back or done again."""


class BadText(RingError):
    """A text that no book has; `row` is the number of the first row at fault."""

    def __init__(self, row):
        RingError.__init__(self, f"row {row} of the text is refused")
        self.row = row
