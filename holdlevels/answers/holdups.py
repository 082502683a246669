"""What less urgent tasks do to a task under levels: how long they hold it off."""

from holdlevels.answers.demands import Demand
from holdlevels.tasks.tasks import LONGEST, NAME, SECTIONS


def _section_holdups(task, ceilings, urgency):
    """Return what the sections of a less urgent task do, ascending."""
    found = {}
    for begin, end, lock in task[SECTIONS]:
        if ceilings[lock] >= urgency:
            found.setdefault((lock, end - begin - 1), begin + 1)
    return [(task[NAME], lock, ticks, found[(lock, ticks)]) for lock, ticks in sorted(found)]


def section_delays(tasks):
    """Return for each urgency how long sections of less urgent tasks can hold off its task."""
    ceilings = tasks.locks
    found = [0] * len(tasks)
    for lower, task in enumerate(tasks.tasks):
        for begin, end, lock in task[SECTIONS]:
            for urgency in range(lower + 1, ceilings[lock] + 1):
                found[urgency] = max(found[urgency], end - begin - 1)
    return found


def holdups(levels, urgency):
    """Return all holdups of the task with this urgency, by their tasks, None ahead of the locks.

    A holdup is a tuple (name, lock, ticks, ran): a job of the less urgent task that has run so many
    ticks holds the task off for these ticks, by its level if the lock is None.
    """
    tasks = levels.tasks
    ceilings = tasks.locks
    found = []
    for task, level in zip(tasks.tasks[:urgency], levels.numbers):
        if level >= urgency:
            found.append((task[NAME], None, task[LONGEST] - 1, 1))
        found.extend(_section_holdups(task, ceilings, urgency))
    return found


def longest_holdup(levels, urgency):
    """Return the first of the holdups with the most ticks, with 0 ticks and no name if there is none."""
    longest = (None, None, 0, 0)
    for holdup in holdups(levels, urgency):
        if holdup[2] > longest[2]:
            longest = holdup
    return longest


def delay_of(levels, urgency):
    """Return the delay of the task with this urgency."""
    return longest_holdup(levels, urgency)[2]


def demand_of(levels, urgency):
    """Return what comes ahead of the ends of the jobs of the task with this urgency."""
    return Demand(levels.tasks, urgency, levels.numbers[urgency], delay_of(levels, urgency))
