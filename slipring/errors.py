"""The refusals: each of them stands straight under RingError.

Their words bear none of the numbers that were handed in, as these may be of any length.
"""


class RingError(ValueError):
    """Whatever the program refuses."""


class BadSize(RingError):
    """A ring, or a row, that has not 2 to 8 places."""


class NoTurn(RingError):
    """A number that is no turn of the ring."""


class BadMark(RingError):
    """A number that is no mark, or no bit."""


class Crooked(RingError):
    """A row of bits that changes more than once, or two turns too far apart."""


class NoCell(RingError):
    """A cell, or a place, that the board has not."""


class BadCells(RingError):
    """Cells that make no board."""


class BadOrder(RingError):
    """A list that is no order for the ring."""


class NoHand(RingError):
    """A text that names no hand, or no side."""


class NoWaiting(RingError):
    """A place at which no order waits."""


class NotSound(RingError):
    """Cells whose marks are not sound."""


class BadStand(RingError):
    """A tuple that is no stand of a lane."""


class TooMany(RingError):
    """More weavings than are gone through."""


class NoName(RingError):
    """A name that is none, or by which no stand is kept, or one too many."""


class NoText(RingError):
    """A text that writes neither cells nor a stand."""


class NoRow(RingError):
    """A row that the desk does not know."""
