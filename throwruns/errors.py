"""The refusals: each stands straight under ThrowError."""


class ThrowError(ValueError):
    """Any refusal."""


class NoDie(ThrowError):
    """What was handed in for a die is none."""


class NoRow(ThrowError):
    """What was handed in for a row of throws is none."""


class NoNumber(ThrowError):
    """What was handed in for a number is none that may stand there."""


class NoLine(ThrowError):
    """What was told to a desk, or handed in for a match, is none."""


class NoMachine(ThrowError):
    """What was handed in for a machine is none."""


class NoPaper(ThrowError):
    """What was handed in for weights or for a bound is none."""


class NoText(ThrowError):
    """A text does not write throws; row tells where it fails."""

    def __init__(self, row):
        ThrowError.__init__(self, f"no throws are written: row {row}")
        self.row = row


class TooGreat(ThrowError):
    """There would be many of something of which at most most are told."""

    def __init__(self, many, most):
        ThrowError.__init__(self, f"{many} are more than {most}")
        self.many = many
        self.most = most
