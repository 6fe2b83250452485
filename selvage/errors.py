"""The refusals, each a class of its own straight under CutError."""


class CutError(ValueError):
    pass


class NotATable(CutError):
    def __init__(self, at):
        CutError.__init__(self, f"no table: the kind at the place {at} is wrong")
        self.at = at


class NoKind(CutError):
    pass


class NotARoll(CutError):
    def __init__(self, at):
        CutError.__init__(self, f"no roll: the cell at the place {at} is wrong")
        self.at = at


class NoPlace(CutError):
    pass


class TooLong(CutError):
    pass


class TooMany(CutError):
    def __init__(self, most):
        CutError.__init__(self, f"there are more than {most}")
        self.most = most


class NoFit(CutError):
    pass


class NoParting(CutError):
    pass


class Closed(CutError):
    pass


class NotAnOrder(CutError):
    def __init__(self, at):
        CutError.__init__(self, f"no order: it is wrong at the place {at}")
        self.at = at


class TooBig(CutError):
    pass


class Short(CutError):
    pass


class Full(CutError):
    pass


class NoRoll(CutError):
    pass


class NoDeed(CutError):
    pass


class NoLine(CutError):
    pass
