"""All errors of the package, with what each of them tells."""


class StairError(ValueError):
    """A value that was passed is not valid."""


class InvalidSteps(StairError):
    """The value is no number of steps."""

    def __init__(self, value):
        self.value = value


class InvalidJumps(StairError):
    """No list (None), or the element at this position is no jump, or stands ahead."""

    def __init__(self, position):
        self.position = position


class InvalidJump(StairError):
    """The value is no jump that can be used here."""

    def __init__(self, value):
        self.value = value


class InvalidLengths(StairError):
    """No list (None), or the element at this position is no length, or stands ahead."""

    def __init__(self, position):
        self.position = position


class InvalidWay(StairError):
    """The value is no way."""

    def __init__(self, value):
        self.value = value


class InvalidThing(StairError):
    """The value is no thing that can be used here."""

    def __init__(self, value):
        self.value = value


class InvalidScore(StairError):
    """The value is no score."""

    def __init__(self, value):
        self.value = value


class InvalidWays(StairError):
    """The value is no collection of ways."""

    def __init__(self, value):
        self.value = value


class InvalidCount(StairError):
    """The value is no number of the kind that is needed."""

    def __init__(self, value):
        self.value = value


class InvalidFlow(StairError):
    """The value is no flow."""

    def __init__(self, value):
        self.value = value


class InvalidRun(StairError):
    """The value is no run."""

    def __init__(self, value):
        self.value = value


class InvalidMark(StairError):
    """The value is no mark."""

    def __init__(self, value):
        self.value = value


class InvalidMarks(StairError):
    """The value is no marks."""

    def __init__(self, value):
        self.value = value


class InvalidPrices(StairError):
    """The value is no prices."""

    def __init__(self, value):
        self.value = value


class InvalidBounds(StairError):
    """No list (None), or the element at this position is no bound, or stands ahead."""

    def __init__(self, position):
        self.position = position


class InvalidMoves(StairError):
    """The value is no moves."""

    def __init__(self, value):
        self.value = value


class InvalidEnds(StairError):
    """No list of states (None), or the element at this position is no state, or stands ahead."""

    def __init__(self, position):
        self.position = position


class InvalidHabits(StairError):
    """The value is no habits."""

    def __init__(self, value):
        self.value = value


class InvalidShares(StairError):
    """The value is no shares."""

    def __init__(self, value):
        self.value = value


class InvalidText(StairError):
    """The line of this number is wrong, or lacks."""

    def __init__(self, line):
        self.line = line


class InvalidClaim(StairError):
    """The value is no claim."""

    def __init__(self, value):
        self.value = value


class InvalidCommand(StairError):
    """The value is no command."""

    def __init__(self, value):
        self.value = value


class MissingError(LookupError):
    """What was asked for is not there."""


class UnknownWay(MissingError):
    """The value is not one of the crowd's ways."""

    def __init__(self, value):
        self.value = value


class NoSuch(MissingError):
    """There is nothing at this value."""

    def __init__(self, value):
        self.value = value


class StateError(RuntimeError):
    """Each value is valid, but they do not go together."""


class OtherSteps(StateError):
    """Two stairs have these unlike numbers of steps."""

    def __init__(self, one, other):
        self.one = one
        self.other = other


class OtherStair(StateError):
    """Two objects belong to these unlike stairs."""

    def __init__(self, one, other):
        self.one = one
        self.other = other


class NotTogether(StateError):
    """Two ways do not both pass this step."""

    def __init__(self, value):
        self.value = value


class NothingFits(StateError):
    """No crowd, or no shares, fit."""


class Endless(StateError):
    """There is no greatest number."""


class NotBetween(StateError):
    """A number is not between these two; greatest is None if it is endless."""

    def __init__(self, least, greatest):
        self.least = least
        self.greatest = greatest


class Unmeeting(StateError):
    """The marks of this thing do not meet."""

    def __init__(self, value):
        self.value = value


class NothingToUndo(StateError):
    """No change is left that can be taken back."""


class CommandFailed(StateError):
    """The command at this position failed; none has an effect."""

    def __init__(self, position):
        self.position = position


class LimitError(ArithmeticError):
    """A limit of the package would be passed."""


class TooMany(LimitError):
    """There would be more of these than the limit."""

    def __init__(self, what, limit):
        self.what = what
        self.limit = limit
