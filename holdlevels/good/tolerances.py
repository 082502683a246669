"""Tolerances: how much delay tasks bear at their levels."""

from holdlevels.answers.demands import MAX_DELAY, is_in_time, works_of
from holdlevels.checks import check_between
from holdlevels.tasks.tasks import DEADLINE
from holdlevels.tasks.tasksets import check_tasks


class Bearer:
    """A task at a level, and what is known of the delays that it bears.

    It bears all up to low, and none from high on. The works are those of all tasks.
    """

    def __init__(self, works, urgency, level, deadline):
        self.works = works
        self.place = urgency
        self.level = level
        self.deadline = deadline
        self.low = -1
        self.high = MAX_DELAY + 1

    def bears(self, ticks):
        """Return whether no job of the task is late with this delay."""
        if self.low < ticks < self.high:
            if is_in_time(self.works, self.place, self.level, ticks, self.deadline):
                self.low = ticks
            else:
                self.high = ticks
        return ticks <= self.low

    def most_borne(self):
        """Return the tolerance, or None."""
        while self.low + 1 < self.high:
            self.bears((self.low + self.high) // 2)
        if self.low < 0:
            return None
        return self.low


def tolerance(tasks, name, level):
    """Return the tolerance of a task at a level, or None."""
    check_tasks(tasks)
    urgency = tasks.urgency(name)
    check_between(level, urgency, len(tasks) - 1)
    return Bearer(works_of(tasks), urgency, level, tasks[name][DEADLINE]).most_borne()


def _tolerances_of(tasks, works, name):
    """Return the tuple of the tolerances of a task at all of its levels."""
    urgency = tasks.urgency(name)
    found = []
    low = -1
    for level in range(urgency, len(tasks)):
        bearer = Bearer(works, urgency, level, tasks[name][DEADLINE])
        # It never falls when the level rises.
        bearer.low = low
        found.append(bearer.most_borne())
        low = bearer.low
    return tuple(found)


def tolerances(tasks):
    """Return a dict from all names to the tolerances at the levels from the urgency on."""
    check_tasks(tasks)
    works = works_of(tasks)
    return {name: _tolerances_of(tasks, works, name) for name in sorted(tasks.names)}


def first_level(works, urgency, ticks, deadline):
    """Return the least level at which a task bears a delay, or None. The works are those of all tasks."""
    for level in range(urgency, len(works)):
        if is_in_time(works, urgency, level, ticks, deadline):
            return level
    return None


def least_level(tasks, name, delay):
    """Return the least level at which the tolerance of a task is at least the delay, or None."""
    check_tasks(tasks)
    urgency = tasks.urgency(name)
    check_between(delay, 0, MAX_DELAY)
    return first_level(works_of(tasks), urgency, delay, tasks[name][DEADLINE])
