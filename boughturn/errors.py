"""The refusals of the package."""


class TurnError(ValueError):
    """Any refusal."""


class NoPaper(TurnError):
    """A thing is no paper: `where` names the part at fault, `at` is its number there."""

    def __init__(self, where, at):
        TurnError.__init__(self, f"no paper: {where} {at}")
        self.where = where
        self.at = at


class NoLadder(TurnError):
    """A thing is no ladder: `where` names the part at fault."""

    def __init__(self, where):
        TurnError.__init__(self, f"no ladder: {where}")
        self.where = where


class NoText(TurnError):
    """A text is not written as it must be."""


class NoRow(TurnError):
    """A desk's first row is none, or wants a paper that isn't there."""


class NoName(TurnError):
    """A desk keeps no table by this name."""
