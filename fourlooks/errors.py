"""The errors of the package: one class for each kind of failure."""


class NoBand(LookupError):
    """There is no BAND of this number."""

    def __init__(self, number):
        self.number = number


class NoPlace(LookupError):
    """There is no stroke of this number."""

    def __init__(self, place):
        self.place = place


class NothingDone(LookupError):
    """There is nothing to take back or to do again."""

    def __init__(self):
        LookupError.__init__(self)


class BadLine(ValueError):
    """The line of this number is none of such a text."""

    def __init__(self, number):
        self.number = number


class Broken(ValueError):
    """The DEED of this place can not be done in its turn."""

    def __init__(self, place):
        self.place = place


class CanNot(ValueError):
    """What is asked for can not be done."""

    def __init__(self):
        ValueError.__init__(self)


class NotClean(ValueError):
    """The LOOK is not clean."""

    def __init__(self):
        ValueError.__init__(self)


class Taken(ValueError):
    """A POINT that should be free is not."""

    def __init__(self, point):
        self.point = point


class TooMany(ValueError):
    """More is asked for than is told."""

    def __init__(self):
        ValueError.__init__(self)


class Unfit(ValueError):
    """What was handed in is not what it should be."""

    def __init__(self):
        ValueError.__init__(self)
