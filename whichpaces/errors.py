"""The errors of the package."""


class PaceError(ValueError):
    """A value that was passed can't be taken."""


class InvalidInteger(PaceError):
    """The value is no INTEGER, or none that is wanted."""

    def __init__(self, value):
        self.value = value


class InvalidRatio(PaceError):
    """The value is no RATIO, or none that is wanted."""

    def __init__(self, value):
        self.value = value


class InvalidPolynomial(PaceError):
    """The value is no POLYNOMIAL."""

    def __init__(self, value):
        self.value = value


class InvalidNumber(PaceError):
    """The value is no NUMBER."""

    def __init__(self, value):
        self.value = value


class InvalidMix(PaceError):
    """The value is no MIX of the number."""

    def __init__(self, value):
        self.value = value


class InvalidMachine(PaceError):
    """The value is no MACHINE."""

    def __init__(self, value):
        self.value = value


class InvalidPlace(PaceError):
    """The value is no place of the machine."""

    def __init__(self, value):
        self.value = value


class InvalidTable(PaceError):
    """The value is no TABLE."""

    def __init__(self, value):
        self.value = value


class InvalidCone(PaceError):
    """The value is no cone of the number."""

    def __init__(self, value):
        self.value = value


class InvalidRow(PaceError):
    """The value is no row of the wanted length."""

    def __init__(self, value):
        self.value = value


class InvalidRounds(PaceError):
    """The value is no ROUNDS."""

    def __init__(self, value):
        self.value = value


class InvalidText(PaceError):
    """The value is no string."""

    def __init__(self, value):
        self.value = value


class InvalidMany(PaceError):
    """The value is no INTEGER within the bounds."""

    def __init__(self, value):
        self.value = value


class InvalidPosition(PaceError):
    """The value is no position there."""

    def __init__(self, value):
        self.value = value


class BadText(PaceError):
    """What stands at this place of the text can't stand there."""

    def __init__(self, position):
        self.position = position


class CommandFailed(PaceError):
    """The command at this place of the list raised an error."""

    def __init__(self, position):
        self.position = position


class InvalidCommand(PaceError):
    """The value is no COMMAND."""

    def __init__(self, value):
        self.value = value


class InvalidPaper(PaceError):
    """The value has not the form of a paper."""

    def __init__(self, value):
        self.value = value


class InvalidQuestion(PaceError):
    """The value is no QUESTION."""

    def __init__(self, value):
        self.value = value


class TakenName(PaceError):
    """The name is that of a thing already."""

    def __init__(self, name):
        self.name = name


class TakenNote(PaceError):
    """The label is that of a note already."""

    def __init__(self, label):
        self.label = label


class UnfitAnswer(PaceError):
    """The value is no answer to the question."""

    def __init__(self, value):
        self.value = value


class UnfitSort(PaceError):
    """The thing of this name is of another sort than is wanted."""

    def __init__(self, name):
        self.name = name


class UnfitThing(PaceError):
    """The value is no thing of the wanted sort."""

    def __init__(self, value):
        self.value = value


class MissingError(LookupError):
    """What was asked for is not there."""


class UnknownName(MissingError):
    """No thing has this name."""

    def __init__(self, name):
        self.name = name


class UnknownNote(MissingError):
    """No note has this label."""

    def __init__(self, label):
        self.label = label


class StateError(RuntimeError):
    """What was passed can be taken, but has no answer."""


class DividedByNought(StateError):
    """Nothing can be divided by 0."""


class IsNought(StateError):
    """The polynomial is nought."""


class NoHub(StateError):
    """No machine with a hub has this pace."""


class NoMachine(StateError):
    """No such machine has this pace."""


class NoRoots(StateError):
    """The polynomial has no roots that could be told."""


class NotAbove(StateError):
    """The row's worth is not above 0."""


class NotAlone(StateError):
    """The number is not alone."""


class NotBeyond(StateError):
    """No conjugate of the number is greater in size."""


class NotMonic(StateError):
    """The polynomial is not monic, or of too low a degree."""


class NotOne(StateError):
    """There is not just one root above 0 between both ratios."""


class NotTogether(StateError):
    """The machine does not hang together."""


class NothingToRedo(StateError):
    """No deed was taken back last."""


class NothingToUndo(StateError):
    """No deed stands."""


class LimitError(ArithmeticError):
    """The answer is greater than what is told."""


class TooMany(LimitError):
    """There is more of what is named than the limit."""

    def __init__(self, what, limit):
        self.what = what
        self.limit = limit
