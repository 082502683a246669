"""The greatest and the least good levels of tasks, and the papers that show them."""

from holdlevels.answers.holdups import delay_of
from holdlevels.answers.reached import late_name, plan_behind, worst_plan
from holdlevels.answers.worst import worst_answer
from holdlevels.errors import InvalidLevels, InvalidOperation, NoLevels
from holdlevels.good.papers import are_good_tables, behind_raises, behind_steps, is_late_anyway, tables_of
from holdlevels.good.tolerances import bears, most_borne
from holdlevels.tasks.levels import Levels
from holdlevels.tasks.tasks import DEADLINE, LONGEST, NAME
from holdlevels.tasks.tasksets import check_tasks


def _lowered(tasks, highest):
    """Return the numbers of the levels behind all steps from levels on, and the steps.

    The steps are pairs (lowered, delayed) of urgencies.
    """
    numbers = list(highest.numbers)
    borne = [0] * len(tasks)
    steps = []
    # What a task bears hangs on its own level alone, and this on what more urgent tasks bear.
    for urgency in range(len(tasks) - 1, -1, -1):
        ticks = tasks.tasks[urgency][LONGEST] - 1
        held = [other for other in range(urgency + 1, numbers[urgency] + 1) if borne[other] < ticks]
        if held:
            numbers[urgency] = held[0] - 1
            steps.append((urgency, held[0]))
        borne[urgency] = most_borne(tasks, urgency, numbers[urgency], -1)
    return numbers, steps


def lowerings(tasks):
    """Yield steps behind which no further step exists."""
    check_tasks(tasks)
    names = tasks.names
    _, steps = _lowered(tasks, Levels.greatest(tasks))
    for lower, upper in steps:
        holdup = (names[lower], None, tasks.tasks[lower][LONGEST] - 1, 1)
        yield (names[lower], names[upper], plan_behind(tasks, upper, holdup))


def _raised(tasks):
    """Return the levels behind all raises."""
    levels = Levels.least(tasks)
    # The delay of a task hangs on the levels of the less urgent ones alone.
    for urgency, name in enumerate(tasks.names):
        ticks = delay_of(levels, urgency)
        level = urgency
        while level < len(tasks) - 1 and not bears(tasks, urgency, level, ticks):
            level += 1
        levels = levels.with_level(name, level)
    return levels


def raisings(tasks):
    """Yield raises behind which no further raise exists."""
    check_tasks(tasks)
    levels = Levels.least(tasks)
    for name, level in zip(tasks.names, _raised(tasks).numbers):
        if levels[name] < level:
            # The same plan is about the task at each of its levels.
            plan = worst_plan(levels, name)
            for _ in range(levels[name], level):
                yield (name, plan)
            levels = levels.with_level(name, level)


def _if_good(levels):
    """Return the levels if they are good, otherwise None."""
    if late_name(levels) is None:
        return levels
    return None


def greatest_levels(tasks, *, within=None):
    """Return the greatest good levels, none greater than the given ones, or None."""
    check_tasks(tasks)
    highest = within
    if within is None:
        highest = Levels.greatest(tasks)
    if not isinstance(highest, Levels) or highest.tasks != tasks:
        raise InvalidLevels("these are not levels of equal tasks")
    numbers, _ = _lowered(tasks, highest)
    return _if_good(Levels(tasks, *numbers))


def least_levels(tasks):
    """Return the least good levels, or None."""
    check_tasks(tasks)
    return _if_good(_raised(tasks))


def _paper_none(tasks):
    """Return a paper of tasks without good levels."""
    numbers, _ = _lowered(tasks, Levels.greatest(tasks))
    steps = tuple(lowerings(tasks))
    found = []
    for urgency, task in enumerate(tasks.tasks):
        # Behind all steps no level of a less urgent task makes this one late: only a section does, or nothing.
        lowest = list(range(urgency)) + numbers[urgency:]
        levels = Levels(tasks, *lowest)
        if worst_answer(levels, task[NAME]) > task[DEADLINE]:
            found.append((task[NAME], worst_plan(levels, task[NAME])))
    name, plan = found[0]
    return "none", steps, name, plan


def levels_paper(tasks, *, least=False):
    """Return a paper that shows the greatest or the least levels, or that there are no good ones."""
    check_tasks(tasks)
    if not isinstance(least, bool):
        raise InvalidOperation("this is neither True nor False")
    levels = least_levels(tasks) if least else greatest_levels(tasks)
    if levels is None:
        return _paper_none(tasks)
    tables = tables_of(levels)
    if least:
        raises = tuple(raisings(tasks))
        return "least", raises, tables
    steps = tuple(lowerings(tasks))
    return "greatest", steps, tables


def _is_paper_none(tasks, value):
    """Return whether a tuple of four is a paper of tasks without good levels, but for its first word."""
    _, steps, name, plan = value
    levels = behind_steps(tasks, steps)
    return levels is not None and is_late_anyway(levels, name, plan)


def is_levels_paper(tasks, value):
    """Return whether the value is a levels paper of the tasks, of any of the three kinds."""
    check_tasks(tasks)
    if not isinstance(value, tuple) or len(value) not in (3, 4):
        return False
    if len(value) == 4:
        return value[0] == "none" and _is_paper_none(tasks, value)
    levels = None
    if value[0] == "greatest":
        levels = behind_steps(tasks, value[1])
    if value[0] == "least":
        levels = behind_raises(tasks, value[1])
    return levels is not None and are_good_tables(levels, value[2])


def _existing(tasks, levels):
    """Return the levels, or raise NoLevels if there are none."""
    if levels is None:
        raise NoLevels(levels_paper(tasks))
    return levels


def existing_levels(tasks):
    """Return the greatest levels, or raise NoLevels if there are none."""
    return _existing(tasks, greatest_levels(tasks))


def good_path(tasks):
    """Yield good levels from the least to the greatest ones, one of them greater by 1 each time."""
    check_tasks(tasks)
    levels = _existing(tasks, least_levels(tasks))
    greatest = existing_levels(tasks)
    yield levels
    for name in tasks.names[::-1]:
        while levels[name] < greatest[name]:
            levels = levels.with_level(name, levels[name] + 1)
            yield levels


def _check_names(tasks, name, other):
    """Raise InvalidTasks if the tasks are none, UnknownName for the first name that no task has."""
    check_tasks(tasks)
    tasks.urgency(name)
    tasks.urgency(other)


def must_interrupt(tasks, name, other):
    """Return whether a job of the first task may interrupt one of the other under all good levels."""
    _check_names(tasks, name, other)
    return existing_levels(tasks).may_interrupt(name, other)


def can_interrupt(tasks, name, other):
    """Return whether a job of the first task may interrupt one of the other under some good levels."""
    _check_names(tasks, name, other)
    return _existing(tasks, least_levels(tasks)).may_interrupt(name, other)
