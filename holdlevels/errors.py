"""The errors of the package."""


class HoldError(ValueError):
    """A value that is passed has not the kind or the form that is asked for."""


class InvalidTask(HoldError):
    """There is no such task."""


class InvalidTasks(HoldError):
    """There are no such tasks."""


class InvalidLevels(HoldError):
    """There are no such levels."""


class InvalidPlan(HoldError):
    """There is no such plan."""


class InvalidOperation(HoldError):
    """Nothing can be done with such a value here."""


class InvalidEdit(HoldError):
    """There is no such edit, or it is not possible."""


class ParseError(HoldError):
    """A text does not stand for a value."""


class InvalidCommand(HoldError):
    """A line is not a command."""


class InvalidNumber(IndexError):
    """A number is not one of those that are asked for."""

    def __init__(self, value):
        self.value = value


class UnknownName(KeyError):
    """No task has this name."""

    def __init__(self, name):
        self.name = name


class TooMany(OverflowError):
    """There would be more than the limit."""

    def __init__(self, limit):
        self.limit = limit


class Overload(ArithmeticError):
    """The load would be greater than 9/10."""

    def __init__(self, share):
        self.share = share


class NoLevels(RuntimeError):
    """The tasks have no good levels, as the paper shows."""

    def __init__(self, paper):
        self.paper = paper


class NothingToUndo(LookupError):
    """There are not so many steps."""

    def __init__(self, many):
        self.many = many
