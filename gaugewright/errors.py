"""The refusals, one class each, all straight under GaugeError."""


class GaugeError(ValueError):
    pass


class NoSpan(GaugeError):
    pass


class NoPart(GaugeError):
    pass


class NoSet(GaugeError):
    pass


class NoRow(GaugeError):
    pass


class Unlike(GaugeError):
    pass


class NoDrawing(GaugeError):
    def __init__(self, number):
        self.number = number


class NoGap(GaugeError):
    def __init__(self, number):
        self.number = number


class NoOffer(GaugeError):
    def __init__(self, number):
        self.number = number


class NoText(GaugeError):
    def __init__(self, row):
        self.row = row


class TooGreat(GaugeError):
    def __init__(self, many, most):
        self.many = many
        self.most = most
