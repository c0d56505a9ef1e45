"""The refusals: each class stands straight under VillageError."""


class VillageError(ValueError):
    """Any refusal."""


class NoRoad(VillageError):
    """A road that cannot be; what: its number, from 0."""

    def __init__(self, what):
        super().__init__(f"no road: {what!r}")
        self.what = what


class NoHouse(VillageError):
    """A house that there is not; what: its number, or None where a house was to be named."""

    def __init__(self, what):
        super().__init__(f"no house: {what!r}")
        self.what = what


class Clash(VillageError):
    """Two reports that no tale fits; what: a tuple of both."""

    def __init__(self, what):
        super().__init__(f"reports that clash: {what!r}")
        self.what = what


class NoReport(VillageError):
    """A report that was not heard; what: the report."""

    def __init__(self, what):
        super().__init__(f"no report: {what!r}")
        self.what = what


class NoTale(VillageError):
    """A list that is no tale; what: None."""

    def __init__(self, what):
        super().__init__(f"no tale: {what!r}")
        self.what = what


class NoDays(VillageError):
    """A number of times that cannot be; what: that number."""

    def __init__(self, what):
        super().__init__(f"no days: {what!r}")
        self.what = what


class NoText(VillageError):
    """A text that writes nothing; what: the text."""

    def __init__(self, what):
        super().__init__(f"no text: {what!r}")
        self.what = what
