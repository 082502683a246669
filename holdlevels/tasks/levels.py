"""The hold levels of tasks."""

from holdlevels.checks import check_between, is_between
from holdlevels.errors import InvalidLevels, InvalidOperation, TooMany
from holdlevels.tasks.tasks import LONGEST
from holdlevels.tasks.tasksets import check_tasks

MAX_LEVELS = 1000


def _are_numbers(tasks, numbers):
    """Return whether these are the numbers of levels of the tasks."""
    many = len(tasks)
    if len(numbers) != many:
        return False
    return all([is_between(level, urgency, many - 1) for urgency, level in enumerate(numbers)])


def _last_within(places, level):
    """Return the index of the last one of ascending urgencies that is at most the level."""
    return len([place for place in places if place <= level]) - 1


class Levels:
    """One level for each task; they never change."""

    def __init__(self, tasks, *numbers):
        check_tasks(tasks)
        if not _are_numbers(tasks, numbers):
            raise InvalidLevels("these are not levels of the tasks")
        self._tasks = tasks
        self._numbers = numbers

    @classmethod
    def of(cls, tasks, numbers):
        """Return the levels with the numbers of a tuple."""
        check_tasks(tasks)
        if not isinstance(numbers, tuple):
            raise InvalidLevels("this is not a tuple of levels")
        return cls(tasks, *numbers)

    @classmethod
    def greatest(cls, tasks):
        """Return the levels under which no task is ever interrupted."""
        check_tasks(tasks)
        numbers = [len(tasks) - 1] * len(tasks)
        return cls(tasks, *numbers)

    @classmethod
    def least(cls, tasks):
        """Return the levels under which each task is interrupted by all that are more urgent."""
        check_tasks(tasks)
        numbers = list(range(len(tasks)))
        return cls(tasks, *numbers)

    @property
    def tasks(self):
        """The tasks to which the levels belong."""
        return self._tasks

    @property
    def numbers(self):
        """The tuple of the levels."""
        return self._numbers

    def reach(self, name):
        """Return the pair of the urgency of a task and of the end of its reach."""
        urgency = self._tasks.urgency(name)
        # A job of one tick is never interrupted, whatever its level is.
        if self._tasks[name][LONGEST] == 1:
            return urgency, len(self._tasks) - 1
        return urgency, self._numbers[urgency]

    def with_level(self, name, level):
        """Return the levels with another level of this task."""
        tasks = self._tasks
        urgency = tasks.urgency(name)
        check_between(level, urgency, len(tasks) - 1)
        numbers = list(self._numbers)
        numbers[urgency] = level
        return Levels(tasks, *numbers)

    def may_interrupt(self, name, other):
        """Return whether a job of the first task may interrupt one of the other task."""
        urgency = self._tasks.urgency(name)
        return urgency > self.reach(other)[1]

    def interrupters(self, name):
        """Return the names of the tasks whose jobs may interrupt those of this one."""
        end = self.reach(name)[1]
        return self._tasks.names[end + 1:]

    def _check_other(self, other):
        """Raise InvalidOperation if the value is not a Levels of equal tasks."""
        if not isinstance(other, Levels) or self._tasks != other._tasks:
            raise InvalidOperation("these are not levels of equal tasks")

    def __or__(self, other):
        self._check_other(other)
        tasks = self._tasks
        numbers = [max(one, two) for one, two in zip(self._numbers, other._numbers)]
        return Levels(tasks, *numbers)

    def __and__(self, other):
        self._check_other(other)
        tasks = self._tasks
        numbers = [min(one, two) for one, two in zip(self._numbers, other._numbers)]
        return Levels(tasks, *numbers)

    def is_within(self, value):
        """Return whether the value are levels of equal tasks, none of which is less."""
        if not isinstance(value, Levels) or self._tasks != value._tasks:
            return False
        return all([one <= two for one, two in zip(self._numbers, value._numbers)])

    def cut_to(self, *names):
        """Return the levels of these tasks alone."""
        tasks = self._tasks.only(*names)
        places = [self._tasks.urgency(name) for name in tasks.names]
        numbers = [_last_within(places, self[name]) for name in tasks.names]
        return Levels(tasks, *numbers)

    def __getitem__(self, name):
        return self._numbers[self._tasks.urgency(name)]

    def __iter__(self):
        raise TypeError("levels cannot be iterated")

    def __len__(self):
        return len(self._numbers)

    def __eq__(self, other):
        return isinstance(other, Levels) and self._tasks == other._tasks and self._numbers == other._numbers

    def __str__(self):
        return " ".join(["levels", *[str(level) for level in self._numbers]])


def check_levels(levels):
    """Raise InvalidLevels if the value is not a Levels."""
    if not isinstance(levels, Levels):
        raise InvalidLevels("this is not a Levels")


def all_levels(tasks):
    """Yield all levels of the tasks, ascending by their numbers."""
    check_tasks(tasks)
    many = len(tasks)
    total = 1
    for urgency in range(many):
        total = total * (many - urgency)
    if total > MAX_LEVELS:
        raise TooMany(MAX_LEVELS)
    rows = [()]
    for urgency in range(many):
        rows = [(*row, level) for row in rows for level in range(urgency, many)]
    for numbers in rows:
        yield Levels(tasks, *numbers)
