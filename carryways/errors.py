"""The errors of the package: one class for each kind of thing that an argument has to be.

The field `value` is the very object that was wrong. Its constructor stands in each class itself, as the rules want it.
"""


class CarryError(ValueError):
    """What all errors of the package are derived from."""


class InvalidBases(CarryError):
    """Not bases of a house, or not one base."""

    def __init__(self, value=None):
        self.value = value


class InvalidRooms(CarryError):
    """Not rooms of a house."""

    def __init__(self, value=None):
        self.value = value


class InvalidHouse(CarryError):
    """Not a house."""

    def __init__(self, value=None):
        self.value = value


class InvalidRow(CarryError):
    """Not a row of a house."""

    def __init__(self, value=None):
        self.value = value


class InvalidRows(CarryError):
    """Not a list of rows."""

    def __init__(self, value=None):
        self.value = value


class InvalidPlace(CarryError):
    """Not a place of a house."""

    def __init__(self, value=None):
        self.value = value


class InvalidDeed(CarryError):
    """Not a deed."""

    def __init__(self, value=None):
        self.value = value


class InvalidNumber(CarryError):
    """Not a whole number or count, or not within its bounds."""

    def __init__(self, value=None):
        self.value = value


class InvalidCarries(CarryError):
    """Not carries."""

    def __init__(self, value=None):
        self.value = value


class InvalidChain(CarryError):
    """Not a chain."""

    def __init__(self, value=None):
        self.value = value


class InvalidSteps(CarryError):
    """Not steps."""

    def __init__(self, value=None):
        self.value = value


class InvalidWish(CarryError):
    """Not a wish."""

    def __init__(self, value=None):
        self.value = value


class InvalidWorths(CarryError):
    """Not worths, part by part."""

    def __init__(self, value=None):
        self.value = value


class InvalidPrices(CarryError):
    """Not prices."""

    def __init__(self, value=None):
        self.value = value


class InvalidDues(CarryError):
    """Not dues of deeds."""

    def __init__(self, value=None):
        self.value = value


class InvalidBounds(CarryError):
    """Not bounds."""

    def __init__(self, value=None):
        self.value = value


class InvalidEvents(CarryError):
    """Not events."""

    def __init__(self, value=None):
        self.value = value


class InvalidChange(CarryError):
    """Not a change of a house."""

    def __init__(self, value=None):
        self.value = value


class InvalidYard(CarryError):
    """Not a yard."""

    def __init__(self, value=None):
        self.value = value


class InvalidSpot(CarryError):
    """Not a spot of a yard."""

    def __init__(self, value=None):
        self.value = value


class InvalidScript(CarryError):
    """Not a script."""

    def __init__(self, value=None):
        self.value = value


class InvalidText(CarryError):
    """Not a text that a writer makes."""

    def __init__(self, value=None):
        self.value = value


class InvalidRecord(CarryError):
    """Not a record of a yard."""

    def __init__(self, value=None):
        self.value = value


class Unlike(CarryError):
    """Not a house of the same bases as an elder one."""

    def __init__(self, value=None):
        self.value = value


class Apart(CarryError):
    """Not a row of the class of an elder one."""

    def __init__(self, value=None):
        self.value = value


class Refused(CarryError):
    """Nothing that can be done as it stands."""

    def __init__(self, value=None):
        self.value = value


class NothingToUndo(CarryError):
    """No command is left to take back."""


class NothingToRedo(CarryError):
    """No command that was taken back is left to make again."""
