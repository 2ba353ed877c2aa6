"""All errors of the package, each directly under BrickError."""


class BrickError(ValueError):
    """What all errors of the package are; as a text each is the name of its class, which is what shells answer."""

    def __str__(self):
        return f"{self.__class__.__name__}"


class BadBatch(BrickError):
    """An attempt was given no list or tuple of edits, or one that is too long."""


class BadBox(BrickError):
    """What was given is no box for the pair; error is what box_error tells of it."""

    def __init__(self, error):
        self.error = error


class BadKinds(BrickError):
    """What was given is no pair of kinds; error is what pair_error tells of it."""

    def __init__(self, error):
        self.error = error


class BadOrder(BrickError):
    """What was given does not name all axes, each once."""

    def __init__(self, given):
        self.given = given


class BadPaper(BrickError):
    """What was given is no paper that tells why the box is not filled."""

    def __init__(self, given):
        self.given = given


class BadSide(BrickError):
    """What was given is no integer that a side may be."""

    def __init__(self, given):
        self.given = given


class BadText(BrickError):
    """The text is wrong from this place on; the place is None if it is no text at all."""

    def __init__(self, place):
        self.place = place


class Busy(BrickError):
    """The yard is within an attempt, so it can not be edited."""


class NoAxis(BrickError):
    """What was given is not the number of an axis."""

    def __init__(self, given):
        self.given = given


class NoKind(BrickError):
    """What was given is not the number of a kind."""

    def __init__(self, given):
        self.given = given


class NoNumber(BrickError):
    """Nothing has this number."""

    def __init__(self, number):
        self.number = number


class NoSeam(BrickError):
    """The filling has no seam across this axis at this place."""

    def __init__(self, axis, at):
        self.axis = axis
        self.at = at


class NoVersion(BrickError):
    """What was given is not the number of a version that is in effect."""

    def __init__(self, given):
        self.given = given


class NotFilled(BrickError):
    """The box would not be filled; reason is a paper that says why."""

    def __init__(self, reason):
        self.reason = reason


class NothingToUndo(BrickError):
    """No edit is in effect that could be taken back."""


class Rejected(BrickError):
    """The edit with this index in an attempt could not be done."""

    def __init__(self, index):
        self.index = index


class TooLarge(BrickError):
    """A length along this axis would be above the bound."""

    def __init__(self, axis):
        self.axis = axis


class TooManyEdits(BrickError):
    """As many edits are in effect as there may be."""


class Unfit(BrickError):
    """The two boxes differ in a side along another axis than the one they are joined along."""


class UnlikeAxes(BrickError):
    """The two pairs have unlike dimensions."""
