"""The refusals of the program, one class for each of them."""


class ScaleError(ValueError):
    """Any refusal."""


class NoPlace(ScaleError):
    """A scale has no such place."""


class TooGreat(ScaleError):
    """A number, or what a reckoning comes to, lies beyond what can be written or asked."""


class TooSmall(ScaleError):
    """More was to be taken off than there is."""


class NoOrder(ScaleError):
    """A tuple is no order of things."""


class NoEnd(ScaleError):
    """A fraction or a round does not end as it was asked to."""


class NoAsk(ScaleError):
    """Something that is not to be asked."""


class NoDigit(ScaleError):
    """A row has a digit that is none; `place` is the first such place."""

    def __init__(self, place):
        ScaleError.__init__(self, f"no digit at place {place}")
        self.place = place
