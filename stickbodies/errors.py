"""The refusals of the program, one class for each kind."""


class BodyError(ValueError):
    """Whatever the program refuses."""


class BadSticks(BodyError):
    """No such sticks, or no such rows."""


class BadPoint(BodyError):
    """No such point."""


class BadTimes(BodyError):
    """No such number of times."""


class BadMany(BodyError):
    """No such count of sticks."""


class BadCut(BodyError):
    """No such cut."""


class BadThree(BodyError):
    """No three sticks that can be flipped."""


class BadPlaces(BodyError):
    """No such exchanges."""


class BadStick(BodyError):
    """No such place of a stick."""
