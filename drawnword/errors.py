"""The refusals: one base, and the others each straight under it."""


class DrawError(ValueError):
    """Any refusal."""


class NotDrawn(DrawError):
    """No closed line has the word; why is what shows it."""

    def __init__(self, why):
        self.why = why


class NoMove(DrawError):
    """The move cannot be made on this word."""


class NoText(DrawError):
    """The text is not written as a word is."""


class NoWord(DrawError):
    """The names that are written are no word."""


class NoRow(DrawError):
    """The row has none of the forms that a clerk knows."""
