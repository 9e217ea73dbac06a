"""The errors of the package.

The messages do not show the fields, because a field may be any value, also one that cannot be shown.
"""


class WallError(ValueError):
    """The base of all errors."""


class NoDays(WallError):
    """The number of days is not an integer from 1 to 30."""


class NoMoments(WallError):
    """The moments are not a tuple of distinct moments."""


class NoKind(WallError):
    """The kind is not a kind of fault."""


class NoCare(WallError):
    """The care is not a care."""


class NoSizes(WallError):
    """The sizes are not a tuple of 1 to 12 integers from 1 to 9."""


class NoSize(WallError):
    """The size is not an integer from 1 to 9."""


class NothingToUndo(WallError):
    """No call is left that can be taken back."""


class NoRule(WallError):
    """The value for a moment is not a rule."""

    def __init__(self, moment):
        super().__init__("the value for this moment is not a rule")
        self.moment = moment


class NoMoment(WallError):
    """The value is not a moment."""

    def __init__(self, moment):
        super().__init__("this is not a moment")
        self.moment = moment


class NoDeed(WallError):
    """The item with this index is not a deed."""

    def __init__(self, index):
        super().__init__("the item with this index is not a deed")
        self.index = index


class NoParcel(WallError):
    """There was no such parcel."""

    def __init__(self, number):
        super().__init__("there was no such parcel")
        self.number = number


class NoBox(WallError):
    """There is no such box."""

    def __init__(self, number):
        super().__init__("there is no such box")
        self.number = number


class NoText(WallError):
    """The line with this index is not as it has to be."""

    def __init__(self, line):
        super().__init__("the line with this index is wrong")
        self.line = line
