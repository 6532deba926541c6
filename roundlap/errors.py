"""The refusals: one class for each, all of them under LapError."""


class LapError(ValueError):
    pass


class NoLoop(LapError):
    pass


class NoInputs(LapError):
    pass


class NoGap(LapError):
    pass


class NoPlan(LapError):
    pass


class NoBoxes(LapError):
    pass


class NoRounds(LapError):
    pass


class TooBig(LapError):
    pass


class NoText(LapError):
    pass
