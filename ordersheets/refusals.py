"""The refusals: for each an error of its own, with the number that is answered."""


class Refusal(Exception):
    def __init__(self, number):
        Exception.__init__(self)
        self.number = number


class NotAsTold(Refusal):
    """A number of the call is outside its range, or a text is too long or has what is no byte."""

    def __init__(self):
        Refusal.__init__(self, -1)


class Fault(Refusal):
    """The first fault of a text: which of the faults it is, and its place."""

    def __init__(self, kind, line, column):
        Refusal.__init__(self, -3)
        self.kind = kind
        self.line = line
        self.column = column


class NoSuchPlace(Refusal):
    """The market doesn't have this zone or quarter."""

    def __init__(self):
        Refusal.__init__(self, -4)


class DivisorIsZero(Refusal):
    def __init__(self):
        Refusal.__init__(self, -11)


class TooGreat(Refusal):
    """A result is beyond the greatest number, either way."""

    def __init__(self):
        Refusal.__init__(self, -12)


class NoStepLeft(Refusal):
    def __init__(self):
        Refusal.__init__(self, -13)


class OutOfRange(Refusal):
    """A number of an order is outside its range."""

    def __init__(self):
        Refusal.__init__(self, -14)


class TooManyOrders(Refusal):
    def __init__(self):
        Refusal.__init__(self, -15)


class NoParent(Refusal):
    """The name behind "under" names no order now."""

    def __init__(self):
        Refusal.__init__(self, -16)
