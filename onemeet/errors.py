"""The refusals of Onemeet: one class for each kind, all of them straight under MeetError."""


class MeetError(ValueError):
    """Something that was handed in is refused."""


class BadPrime(MeetError):
    """It is no prime from 3 to 997."""


class BadPoint(MeetError):
    """It is no point by the prime."""


class BadLine(MeetError):
    """It is no line by the prime."""


class BadForm(MeetError):
    """It is no form by the prime."""


class BadNumber(MeetError):
    """It is no number of a point."""


class Alike(MeetError):
    """Two that have to be unlike are alike."""


class NotOn(MeetError):
    """The point is not on the line."""
