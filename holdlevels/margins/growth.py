"""Tasks that are at least as hard as other ones, and who interrupts whom."""

from holdlevels.errors import InvalidOperation
from holdlevels.good.greatest import existing_levels
from holdlevels.tasks.levels import Levels, check_levels
from holdlevels.tasks.tasks import DEADLINE, GAP, LONGEST, NAME, ROOM, section_lengths
from holdlevels.tasks.tasksets import check_tasks


def _is_harder_task(task, other):
    """Return whether a task is at least as hard as another one."""
    if task[LONGEST] < other[LONGEST] or task[ROOM] < other[ROOM]:
        return False
    if task[GAP] > other[GAP] or task[DEADLINE] > other[DEADLINE]:
        return False
    lengths = section_lengths(task)
    return all([lengths.get(lock, 0) >= ticks for lock, ticks in section_lengths(other).items()])


def is_harder(tasks, other):
    """Return whether the tasks are at least as hard as the other ones."""
    check_tasks(tasks)
    check_tasks(other)
    if tuple([name for name in tasks.names if name in other]) != other.names:
        return False
    return all([_is_harder_task(tasks[task[NAME]], task) for task in other.tasks])


def cut(levels, tasks):
    """Return levels of harder tasks cut to these easier ones."""
    check_levels(levels)
    if not is_harder(levels.tasks, tasks):
        raise InvalidOperation("the tasks of the levels are not at least as hard")
    names = tasks.names
    numbers = levels.cut_to(*names).numbers
    return Levels(tasks, *numbers)


def interruption_pairs(levels):
    """Return the ascending pairs of names of which the first task may interrupt the other one under levels."""
    pairs = [(name, other) for other in levels.tasks.names for name in levels.interrupters(other)]
    return tuple(sorted(pairs))


def interruptions(tasks):
    """Return the ascending interruptions of the tasks."""
    return interruption_pairs(existing_levels(tasks))


def new_interruptions(tasks, other):
    """Return the interruptions of the first tasks between tasks that both have, but not those of the others."""
    check_tasks(tasks)
    check_tasks(other)
    pairs = interruption_pairs(existing_levels(tasks))
    known = interruption_pairs(existing_levels(other))
    return tuple([pair for pair in pairs if pair[0] in other and pair[1] in other and pair not in known])
