"""The refusals: each class stands straight under BitsError."""


class BitsError(ValueError):
    """Anything that meanbits refuses."""


class BadPart(BitsError):
    """A text that writes no part."""


class NoPlace(BitsError):
    """A place that the row does not have."""


class NoStart(BitsError):
    """A first error outside 0 to below less one."""


class NoTop(BitsError):
    """A top outside 0 to below."""


class NoShare(BitsError):
    """A share that does not make the row."""


class TooShort(BitsError):
    """A row with too few bits for the question."""


class TooMuch(BitsError):
    """A number beyond what can be promised or held."""


class UnlikeRows(BitsError):
    """Rows that are not as long as one another."""


class BadSheet(BitsError):
    """A sheet of which the row of that number is not written as it must be."""

    def __init__(self, row):
        super().__init__(f"row {row} of the sheet is not written as it must be")
        self.row = row
