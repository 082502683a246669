"""The greatest and the least good levels of tasks, and the papers that show them."""

from holdlevels.answers.demands import works_of
from holdlevels.answers.holdups import longest_holdup, section_delays
from holdlevels.answers.reached import plan_behind, worst_plan
from holdlevels.errors import InvalidLevels, InvalidOperation, NoLevels
from holdlevels.good.papers import are_good_tables, behind_raises, behind_steps, is_late_anyway, tables_of
from holdlevels.good.tolerances import Bearer, first_level
from holdlevels.tasks.levels import Levels
from holdlevels.tasks.tasks import DEADLINE, GAP, LONGEST
from holdlevels.tasks.tasksets import check_tasks


def _descent(tasks, highest):
    """Return the numbers of the levels behind all steps from levels on, the steps, and who is late anyway.

    The steps are pairs (lowered, delayed) of urgencies. Who is late anyway is the least urgency of a
    task that is late behind them however low the levels of less urgent tasks are, or None.
    """
    works = works_of(tasks)
    held = section_delays(tasks)
    numbers = list(highest)
    bearers = [None] * len(works)
    steps = []
    late = None
    # What a task bears hangs on its own level alone, and this on what more urgent tasks bear.
    for urgency in range(len(works) - 1, -1, -1):
        task = tasks.tasks[urgency]
        for upper in range(urgency + 1, numbers[urgency] + 1):
            if not bearers[upper].bears(task[LONGEST] - 1):
                numbers[urgency] = upper - 1
                steps.append((urgency, upper))
                break
        bearers[urgency] = Bearer(works, urgency, numbers[urgency], task[DEADLINE])
        if not bearers[urgency].bears(held[urgency]):
            late = urgency
    return numbers, steps, late


def _full_descent(tasks):
    """Return what is behind all steps from the greatest of all levels on."""
    return _descent(tasks, [len(tasks) - 1] * len(tasks))


def _shown_step(tasks, lower, upper):
    """Return the step that lowers the level of a task below the urgency of another one."""
    name, longest = tasks.tasks[lower][:GAP]
    return name, tasks.names[upper], plan_behind(tasks, upper, (name, None, longest - 1, 1))


def lowerings(tasks):
    """Yield steps behind which no further step exists."""
    check_tasks(tasks)
    _, steps, _ = _full_descent(tasks)
    for lower, upper in steps:
        yield _shown_step(tasks, lower, upper)


def _ascent(tasks):
    """Return the numbers of the levels behind all raises, and whether these are good."""
    works = works_of(tasks)
    held = section_delays(tasks)
    numbers = []
    good = True
    # The delay of a task hangs on the levels of the less urgent ones alone.
    for urgency, task in enumerate(tasks.tasks):
        delays = [lower[LONGEST] - 1 for lower, level in zip(tasks.tasks, numbers) if level >= urgency]
        level = first_level(works, urgency, max([held[urgency], *delays]), task[DEADLINE])
        if level is None:
            level = len(works) - 1
            good = False
        numbers.append(level)
    return numbers, good


def raisings(tasks):
    """Yield raises behind which no further raise exists."""
    check_tasks(tasks)
    levels = Levels.least(tasks)
    numbers, _ = _ascent(tasks)
    for name, level in zip(tasks.names, numbers):
        if levels[name] < level:
            # The same plan is about the task at each of its levels.
            plan = worst_plan(levels, name)
            for _ in range(levels[name], level):
                yield (name, plan)
            levels = levels.with_level(name, level)


def greatest_levels(tasks, *, within=None):
    """Return the greatest good levels, none greater than the given ones, or None."""
    check_tasks(tasks)
    highest = within
    if within is None:
        highest = Levels.greatest(tasks)
    if not isinstance(highest, Levels) or highest.tasks != tasks:
        raise InvalidLevels("these are not levels of equal tasks")
    numbers, _, late = _descent(tasks, highest.numbers)
    if late is not None:
        return None
    return Levels(tasks, *numbers)


def least_levels(tasks):
    """Return the least good levels, or None."""
    check_tasks(tasks)
    numbers, good = _ascent(tasks)
    if not good:
        return None
    return Levels(tasks, *numbers)


def _paper_none(tasks, steps, late):
    """Return a paper of tasks without good levels."""
    # No level of a less urgent task makes the late one late: only a section does, or nothing.
    plan = plan_behind(tasks, late, longest_holdup(Levels.least(tasks), late))
    return "none", tuple([_shown_step(tasks, lower, upper) for lower, upper in steps]), tasks.names[late], plan


def levels_paper(tasks, *, least=False):
    """Return a paper that shows the greatest or the least levels, or that there are no good ones."""
    check_tasks(tasks)
    if not isinstance(least, bool):
        raise InvalidOperation("this is neither True nor False")
    levels = least_levels(tasks) if least else None
    if levels is not None:
        raises = tuple(raisings(tasks))
        return "least", raises, tables_of(levels)
    numbers, steps, late = _full_descent(tasks)
    if late is not None:
        return _paper_none(tasks, steps, late)
    shown = tuple([_shown_step(tasks, lower, upper) for lower, upper in steps])
    return "greatest", shown, tables_of(Levels(tasks, *numbers))


def _is_paper_none(tasks, value):
    """Return whether a tuple of four is a paper of tasks without good levels, but for its first word."""
    _, steps, name, plan = value
    levels = behind_steps(tasks, steps)
    return levels is not None and is_late_anyway(levels, name, plan)


def is_levels_paper(tasks, value):
    """Return whether the value is a levels paper of the tasks, of any of the three kinds."""
    check_tasks(tasks)
    if not isinstance(value, tuple) or len(value) not in (3, 4):
        return False
    if len(value) == 4:
        return value[0] == "none" and _is_paper_none(tasks, value)
    levels = None
    if value[0] == "greatest":
        levels = behind_steps(tasks, value[1])
    if value[0] == "least":
        levels = behind_raises(tasks, value[1])
    return levels is not None and are_good_tables(levels, value[2])


def existing_levels(tasks):
    """Return the greatest levels, or raise NoLevels if there are none."""
    check_tasks(tasks)
    numbers, steps, late = _full_descent(tasks)
    if late is not None:
        raise NoLevels(_paper_none(tasks, steps, late))
    return Levels(tasks, *numbers)


def good_path(tasks):
    """Yield good levels from the least to the greatest ones, one of them greater by 1 each time."""
    greatest = existing_levels(tasks)
    levels = least_levels(tasks)
    yield levels
    for name in tasks.names[::-1]:
        while levels[name] < greatest[name]:
            levels = levels.with_level(name, levels[name] + 1)
            yield levels


def _check_names(tasks, name, other):
    """Raise InvalidTasks if the tasks are none, UnknownName for the first name that no task has."""
    check_tasks(tasks)
    tasks.urgency(name)
    tasks.urgency(other)


def must_interrupt(tasks, name, other):
    """Return whether a job of the first task may interrupt one of the other under all good levels."""
    _check_names(tasks, name, other)
    return existing_levels(tasks).may_interrupt(name, other)


def can_interrupt(tasks, name, other):
    """Return whether a job of the first task may interrupt one of the other under some good levels."""
    _check_names(tasks, name, other)
    levels = least_levels(tasks)
    if levels is None:
        raise NoLevels(levels_paper(tasks))
    return levels.may_interrupt(name, other)
