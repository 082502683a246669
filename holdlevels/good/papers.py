"""What papers are made of, and whether somebody's papers are correct."""

from holdlevels.answers.demands import is_table, shown_answers
from holdlevels.answers.holdups import demand_of
from holdlevels.answers.reached import is_about, less_urgent_jobs
from holdlevels.answers.worst import answer_table
from holdlevels.runs.runs import Run
from holdlevels.tasks.levels import Levels
from holdlevels.tasks.tasks import DEADLINE


def tables_of(levels):
    """Return a dict from all names to the tables of least numbers."""
    return {name: answer_table(levels, name) for name in sorted(levels.tasks.names)}


def _is_good_table(levels, urgency, value):
    """Return whether the value is a table of a task that shows at most the deadline."""
    demand = demand_of(levels, urgency)
    if not is_table(demand, value):
        return False
    return max(shown_answers(demand, value)) <= levels.tasks.tasks[urgency][DEADLINE]


def are_good_tables(levels, value):
    """Return whether the value is a dict from all names to tables that show at most the deadlines."""
    names = levels.tasks.names
    if not isinstance(value, dict) or len(value) != len(names):
        return False
    for urgency, name in enumerate(names):
        if name not in value or not _is_good_table(levels, urgency, value[name]):
            return False
    return True


def has_late_job(levels, name, plan):
    """Return whether a job of a task is late in the run of a plan."""
    return name in [plan[index][1] for index in Run(levels, plan).late]


def _is_late_about(levels, name, plan):
    """Return whether the value is a plan about a task in whose run a job of it is late."""
    return is_about(levels.tasks, name, plan) and has_late_job(levels, name, plan)


def _is_step(levels, value):
    """Return whether the value is a step for the levels."""
    tasks = levels.tasks
    if not isinstance(value, tuple) or len(value) != 3:
        return False
    lowered, delayed, plan = value
    if lowered not in tasks or delayed not in tasks:
        return False
    if not tasks.urgency(lowered) < tasks.urgency(delayed) <= levels[lowered]:
        return False
    if not _is_late_about(levels, delayed, plan):
        return False
    return all([job[1] == lowered for job in less_urgent_jobs(tasks, delayed, plan)])


def behind_steps(tasks, value):
    """Return the levels behind all steps, or None if the value are no steps of the tasks."""
    if not isinstance(value, tuple):
        return None
    levels = Levels.greatest(tasks)
    for step in value:
        if not _is_step(levels, step):
            return None
        levels = levels.with_level(step[0], tasks.urgency(step[1]) - 1)
    return levels


def _is_raise(levels, value):
    """Return whether the value is a raise for the levels."""
    tasks = levels.tasks
    if not isinstance(value, tuple) or len(value) != 2 or value[0] not in tasks:
        return False
    return levels[value[0]] < len(tasks) - 1 and _is_late_about(levels, value[0], value[1])


def behind_raises(tasks, value):
    """Return the levels behind all raises, or None if the value are no raises of the tasks."""
    if not isinstance(value, tuple):
        return None
    levels = Levels.least(tasks)
    for step in value:
        if not _is_raise(levels, step):
            return None
        levels = levels.with_level(step[0], levels[step[0]] + 1)
    return levels


def is_late_anyway(levels, name, plan):
    """Return whether a job of a task is late in the run of a plan about it.

    The less urgent task in the plan, if there is one, has its urgency for its level.
    """
    tasks = levels.tasks
    if name not in tasks or not is_about(tasks, name, plan):
        return False
    for _, lower, _ in less_urgent_jobs(tasks, name, plan):
        levels = levels.with_level(lower, tasks.urgency(lower))
    return has_late_job(levels, name, plan)
