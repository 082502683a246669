"""Tolerances: how much delay tasks bear at their levels."""

from holdlevels.answers.demands import MAX_DELAY, Demand, greatest_answer
from holdlevels.checks import check_between
from holdlevels.tasks.tasks import DEADLINE
from holdlevels.tasks.tasksets import check_tasks


def bears(tasks, urgency, level, ticks):
    """Return whether no job of a task is late at a level with this delay."""
    return greatest_answer(Demand(tasks, urgency, level, ticks)) <= tasks.tasks[urgency][DEADLINE]


def most_borne(tasks, urgency, level, least):
    """Return the tolerance of a task at a level, which is known to be at least so much, -1 if there is none."""
    low, high = least, MAX_DELAY
    while low < high:
        middle = (low + high + 1) // 2
        if bears(tasks, urgency, level, middle):
            low = middle
        else:
            high = middle - 1
    return low


def _or_none(ticks):
    """Return a tolerance, None for -1."""
    if ticks < 0:
        return None
    return ticks


def tolerance(tasks, name, level):
    """Return the tolerance of a task at a level, or None."""
    check_tasks(tasks)
    urgency = tasks.urgency(name)
    check_between(level, urgency, len(tasks) - 1)
    return _or_none(most_borne(tasks, urgency, level, -1))


def _tolerances_of(tasks, name):
    """Return the tuple of the tolerances of a task at all of its levels."""
    urgency = tasks.urgency(name)
    found = []
    ticks = -1
    for level in range(urgency, len(tasks)):
        # It never falls when the level rises.
        ticks = most_borne(tasks, urgency, level, ticks)
        found.append(_or_none(ticks))
    return tuple(found)


def tolerances(tasks):
    """Return a dict from all names to the tolerances at the levels from the urgency on."""
    check_tasks(tasks)
    return {name: _tolerances_of(tasks, name) for name in sorted(tasks.names)}


def least_level(tasks, name, delay):
    """Return the least level at which the tolerance of a task is at least the delay, or None."""
    check_tasks(tasks)
    urgency = tasks.urgency(name)
    check_between(delay, 0, MAX_DELAY)
    for level in range(urgency, len(tasks)):
        if bears(tasks, urgency, level, delay):
            return level
    return None
