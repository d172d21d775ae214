"""The errors that the program raises, each below its base class."""


class WrongValue(ValueError):
    """An argument that is not what it has to be."""


class InvalidLine(WrongValue):
    """What was given is no line of at most 60 places."""

    def __init__(self, given):
        self.given = given


class InvalidPlan(WrongValue):
    """What was given is no plan."""

    def __init__(self, given):
        self.given = given


class InvalidKind(WrongValue):
    """What was given is no kind."""

    def __init__(self, given):
        self.given = given


class InvalidNumber(WrongValue):
    """What was given is no such number."""

    def __init__(self, given):
        self.given = given


class InvalidIndex(WrongValue):
    """What was given is no index of anything there."""

    def __init__(self, given):
        self.given = given


class InvalidText(WrongValue):
    """What was given is no such text."""

    def __init__(self, given):
        self.given = given


class InvalidName(WrongValue):
    """What was given is no name."""

    def __init__(self, given):
        self.given = given


class InvalidWish(WrongValue):
    """What was given is no wish."""

    def __init__(self, given):
        self.given = given


class NotAProgram(WrongValue):
    """What was given is no program."""

    def __init__(self, given):
        self.given = given


class InvalidLayers(WrongValue):
    """The layer with this index is none, or is none behind those before it."""

    def __init__(self, index):
        self.index = index


class InvalidChanges(WrongValue):
    """The change with this index is none, or is none behind those before it."""

    def __init__(self, index):
        self.index = index


class WrongRow(WrongValue):
    """The row of a text with this index is not right."""

    def __init__(self, index):
        self.index = index


class WrongName(LookupError):
    """A name that does not fit what stands under names."""


class UnknownName(WrongName):
    """Nothing stands under the name that was given."""

    def __init__(self, given):
        self.given = given


class InUse(WrongName):
    """The wish with this index needs what stands under the name."""

    def __init__(self, index):
        self.index = index


class NoAnswer(ArithmeticError):
    """A call that is right, but has no answer."""


class NothingToUndo(NoAnswer):
    """No change is left that could be taken back."""


class Broken(NoAnswer):
    """The wish with this index would not hold."""

    def __init__(self, index):
        self.index = index


class TooMany(NoAnswer):
    """The width, with the rounds, is above this limit."""

    def __init__(self, limit):
        self.limit = limit
