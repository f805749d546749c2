"""The errors of the package, all of them directly under RoomError."""


class RoomError(ValueError):
    """The base of all errors of the package."""


class InvalidFractionError(RoomError):
    """A value is not a fraction, or no fraction can be made of it."""


class InvalidLabelsError(RoomError):
    """A value is not the labels of a partition."""


class MismatchError(RoomError):
    """There is no partition, or the partitions have different lengths."""


class InvalidOddsError(RoomError):
    """A value is not odds for the labels."""


class InvalidWeightsError(RoomError):
    """A value is not weights for the labels."""


class InvalidEventError(RoomError):
    """A value is not an event."""


class InvalidAmountsError(RoomError):
    """A value is not amounts of the observer or of the region."""


class InvalidRoomError(RoomError):
    """There is no room of these observers."""


class InvalidGroupError(RoomError):
    """A value is not the number of an observer, or not a group of them."""


class InvalidQuestionError(RoomError):
    """A question is not known, or has too many or too few arguments."""


class EmptyEventError(RoomError):
    """No present case remains."""


class InvalidRegionError(RoomError):
    """A value is not the number of a region."""


class InvalidWalkError(RoomError):
    """A value is not a walk."""


class InvalidPaymentError(RoomError):
    """A value is not a payment in the region."""


class NothingToUndoError(RoomError):
    """No payment is recorded."""


class InvalidCaseError(RoomError):
    """A value is not the least present case of a part."""


class OutOfRangeError(RoomError):
    """A value is not an integer of the allowed ones."""


class InvalidTextError(RoomError):
    """A value is not the text of a fraction or of a room."""


class OddsDifferError(RoomError):
    """Two observers have different ratios of odds on the cases one and other."""

    def __init__(self, one, other):
        super().__init__("the ratios of odds differ on two cases")
        self.one = one
        self.other = other
