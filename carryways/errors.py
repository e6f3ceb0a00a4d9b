"""The errors of the package: one class for each kind of thing that an argument has to be."""


class CarryError(ValueError):
    """What all errors of the package are derived from."""


class ValuedError(CarryError):
    """An error that keeps the very object that was not what it had to be."""

    def __init__(self, value=None):
        self.value = value


class InvalidBases(ValuedError):
    """Not bases of a house, or not one base."""


class InvalidRooms(ValuedError):
    """Not rooms of a house."""


class InvalidHouse(ValuedError):
    """Not a house."""


class InvalidRow(ValuedError):
    """Not a row of a house."""


class InvalidRows(ValuedError):
    """Not a list of rows."""


class InvalidPlace(ValuedError):
    """Not a place of a house."""


class InvalidDeed(ValuedError):
    """Not a deed."""


class InvalidNumber(ValuedError):
    """Not a whole number or count, or not within its bounds."""


class InvalidCarries(ValuedError):
    """Not carries."""


class InvalidChain(ValuedError):
    """Not a chain."""


class InvalidSteps(ValuedError):
    """Not steps."""


class InvalidWish(ValuedError):
    """Not a wish."""


class InvalidWorths(ValuedError):
    """Not worths, part by part."""


class InvalidPrices(ValuedError):
    """Not prices."""


class InvalidDues(ValuedError):
    """Not dues of deeds."""


class InvalidBounds(ValuedError):
    """Not bounds."""


class InvalidEvents(ValuedError):
    """Not events."""


class InvalidChange(ValuedError):
    """Not a change of a house."""


class InvalidYard(ValuedError):
    """Not a yard."""


class InvalidSpot(ValuedError):
    """Not a spot of a yard."""


class InvalidScript(ValuedError):
    """Not a script."""


class InvalidText(ValuedError):
    """Not a text that a writer makes."""


class InvalidRecord(ValuedError):
    """Not a record of a yard."""


class Unlike(ValuedError):
    """Not a house of the same bases as an elder one."""


class Apart(ValuedError):
    """Not a row of the class of an elder one."""


class Refused(ValuedError):
    """Nothing that can be done as it stands."""


class NothingToUndo(CarryError):
    """No command is left to take back."""


class NothingToRedo(CarryError):
    """No command that was taken back is left to make again."""
