"""Whether levels are good, and why not."""

from holdlevels.answers.demands import works_of
from holdlevels.answers.holdups import holdups
from holdlevels.answers.reached import late_name, worst_plan
from holdlevels.good.papers import are_good_tables, has_late_job, tables_of
from holdlevels.good.tolerances import Bearer
from holdlevels.runs.plans import is_plan
from holdlevels.tasks.levels import check_levels
from holdlevels.tasks.tasks import DEADLINE, NAME


def is_good(levels):
    """Return whether no job is late in any run under the levels."""
    check_levels(levels)
    return late_name(levels) is None


def faults(levels):
    """Yield all faults of the levels, by the urgencies of both tasks, then by lock and ticks."""
    check_levels(levels)
    tasks = levels.tasks
    works = works_of(tasks)
    for urgency, task in enumerate(tasks.tasks):
        found = holdups(levels, urgency)
        bearer = Bearer(works, urgency, levels.numbers[urgency], task[DEADLINE])
        # If the task bears the longest holdup, it bears all of them.
        if not bearer.bears(max([0, *[ticks for _, _, ticks, _ in found]])):
            if not bearer.bears(0):
                yield (task[NAME], None, None, 0)
            else:
                for lower, lock, ticks, _ in found:
                    if not bearer.bears(ticks):
                        yield (task[NAME], lower, lock, ticks)


def state_paper(levels):
    """Return a paper that the levels are good, or that a job is late."""
    check_levels(levels)
    name = late_name(levels)
    if name is None:
        return "good", tables_of(levels)
    return "late", name, worst_plan(levels, name)


def _is_late_plan(levels, name, plan):
    """Return whether the value is a plan in whose run a job of the task is late."""
    tasks = levels.tasks
    return name in tasks and is_plan(tasks, plan) and has_late_job(levels, name, plan)


def is_state_paper(levels, value):
    """Return whether the value is a paper that the levels are good, or that a job is late."""
    check_levels(levels)
    if not isinstance(value, tuple):
        return False
    if len(value) == 2:
        return value[0] == "good" and are_good_tables(levels, value[1])
    return len(value) == 3 and value[0] == "late" and _is_late_plan(levels, value[1], value[2])
