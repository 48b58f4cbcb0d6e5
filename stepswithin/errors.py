"""The errors of the package: each one stands directly beneath StepError."""


class StepError(ValueError):
    """What all errors of the package are."""


class BadNumber(StepError):
    """A value is no number."""

    def __init__(self, value):
        self.value = value


class BadStep(StepError):
    """A value is no step."""

    def __init__(self, value):
        self.value = value


class BadRow(StepError):
    """A value is no row: () as a whole, (I,) at its I-th step."""

    def __init__(self, place):
        self.place = place


class BadParameter(StepError):
    """A parameter is not as told."""

    def __init__(self, value):
        self.value = value


class BadIndex(StepError):
    """A value is no place where something can be done."""

    def __init__(self, value):
        self.value = value


class BadText(StepError):
    """A text cannot be read from a word of a line on."""

    def __init__(self, line, word):
        self.line = line
        self.word = word


class BadDeed(StepError):
    """A value is no deed, or no tuple of deeds."""

    def __init__(self, place):
        self.place = place


class NoRow(StepError):
    """What is asked for is not there."""


class Unlike(StepError):
    """Two things that should fit together do not."""

    def __init__(self, value):
        self.value = value


class TooGreat(StepError):
    """A number is greater than the most that is let."""

    def __init__(self, most):
        self.most = most


class NothingBack(StepError):
    """There is no deed to take back."""
