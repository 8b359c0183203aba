"""The errors of the package."""


class ChangeError(ValueError):
    """Any error of the package."""


class BadKinds(ChangeError):
    """Kinds that are none: the name tells which one is wrong, None that all are."""

    def __init__(self, name):
        self.name = name


class BadChange(ChangeError):
    """A change that is none: the place tells its number, None that there are no changes."""

    def __init__(self, place):
        self.place = place


class BadText(ChangeError):
    """A text that is none."""


class CannotDo(ChangeError):
    """A change that cannot be done: the place tells its number."""

    def __init__(self, place):
        self.place = place


class BadTable(ChangeError):
    """A table that is none: the entry tells where it is wrong, None that it is wrong as a whole."""

    def __init__(self, entry):
        self.entry = entry


class SameHand(ChangeError):
    """Changes of one hand where different hands are asked."""


class BadNumber(ChangeError):
    """A number, or an order of numbers, that cannot be asked for."""
