"""The refusals: one class for each, side by side beneath CircuitError."""


class CircuitError(ValueError):
    pass


class NoPlace(CircuitError):
    pass


class NoName(CircuitError):
    pass


class BadText(CircuitError):
    pass


class NoRow(CircuitError):
    pass


class NoTable(CircuitError):
    pass


class UnlikeSizes(CircuitError):
    pass


class TooGreat(CircuitError):
    pass


class NoMachine(CircuitError):
    pass


class BadSheet(CircuitError):
    pass
