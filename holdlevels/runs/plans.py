"""Plans: the jobs of a run."""

from holdlevels.checks import check_between, check_whole, is_between
from holdlevels.errors import InvalidOperation, InvalidPlan, UnknownName
from holdlevels.tasks.tasks import GAP, LONGEST
from holdlevels.tasks.tasksets import check_tasks

MAX_TICK = 20000


def _is_job(tasks, value):
    """Return whether the value is a job of one of the tasks."""
    if not isinstance(value, tuple) or len(value) != 3:
        return False
    tick, name, length = value
    return is_between(tick, 0, MAX_TICK) and name in tasks and is_between(length, 1, tasks[name][LONGEST])


def _are_jobs(tasks, value):
    """Return whether the value is a tuple of jobs, in any order."""
    return isinstance(value, tuple) and all([_is_job(tasks, job) for job in value])


def _are_apart(tasks, jobs):
    """Return whether ascending jobs of one task are at least its gap apart."""
    free = {name: 0 for name in tasks.names}
    for tick, name, _ in jobs:
        if tick < free[name]:
            return False
        free[name] = tick + tasks[name][GAP]
    return True


def is_plan(tasks, value):
    """Return whether the value is a plan of the tasks."""
    check_tasks(tasks)
    if not _are_jobs(tasks, value):
        return False
    return all([one < two for one, two in zip(value, value[1:])]) and _are_apart(tasks, value)


def check_plan(tasks, plan):
    """Raise InvalidTasks if the tasks are none, InvalidPlan if the value is not a plan of them."""
    if not is_plan(tasks, plan):
        raise InvalidPlan("this is not a plan of the tasks")


def make_plan(tasks, *jobs):
    """Return the plan with these jobs, which come in any order."""
    return plan_of(tasks, jobs)


def plan_of(tasks, jobs):
    """Return the plan with the jobs of a tuple, which come in any order."""
    check_tasks(tasks)
    # Only what is known to be jobs can be sorted.
    if not _are_jobs(tasks, jobs):
        raise InvalidPlan("this is not a tuple of jobs of the tasks")
    plan = tuple(sorted(jobs))
    check_plan(tasks, plan)
    return plan


def dense_plan(tasks, ticks, *names):
    """Return the plan in which these tasks release as much as they can, below the ticks."""
    return dense_plan_of(tasks, ticks, names)


def dense_plan_of(tasks, ticks, names):
    """Return the plan in which the tasks of a tuple release as much as they can, below the ticks."""
    check_tasks(tasks)
    check_between(ticks, 0, MAX_TICK)
    if not isinstance(names, tuple):
        raise InvalidOperation("this is not a tuple of names")
    for name in names:
        if name not in tasks:
            raise UnknownName(name)
    jobs = []
    for task in tasks.tasks:
        name, longest, gap = task[:GAP + 1]
        if not names or name in names:
            jobs.extend([(tick, name, longest) for tick in range(0, ticks, gap)])
    return tuple(sorted(jobs))


def shifted(tasks, plan, ticks):
    """Return the plan with all jobs so many ticks later."""
    check_plan(tasks, plan)
    check_whole(ticks)
    moved = tuple([(tick + ticks, name, length) for tick, name, length in plan])
    check_plan(tasks, moved)
    return moved


def merged(tasks, plan, other):
    """Return the plan with the jobs of both."""
    check_plan(tasks, plan)
    check_plan(tasks, other)
    both = tuple(sorted(set(plan + other)))
    check_plan(tasks, both)
    return both


def without_jobs(tasks, plan, *indices):
    """Return the plan without the jobs with these indices."""
    check_plan(tasks, plan)
    for index in indices:
        check_between(index, 0, len(plan) - 1)
    gone = {index: True for index in indices}
    return tuple([job for index, job in enumerate(plan) if index not in gone])


def shortened(tasks, plan, index, length):
    """Return the plan in which one job has another length, not a greater one."""
    check_plan(tasks, plan)
    check_between(index, 0, len(plan) - 1)
    tick, name, most = plan[index]
    check_between(length, 1, most)
    return plan[:index] + ((tick, name, length),) + plan[index + 1:]


def is_thinner(tasks, plan, value):
    """Return whether the value is a plan that is thinner than the plan."""
    check_plan(tasks, plan)
    if not is_plan(tasks, value):
        return False
    lengths = {(tick, name): length for tick, name, length in plan}
    return all([length <= lengths.get((tick, name), 0) for tick, name, length in value])


def jobs_of(tasks, plan, name):
    """Return the indices of the jobs of a task."""
    check_plan(tasks, plan)
    if name not in tasks:
        raise UnknownName(name)
    return tuple([index for index, job in enumerate(plan) if job[1] == name])


def work_in(tasks, plan, name, begin, end):
    """Return how long the jobs of a task run that are released from begin on, and before end."""
    indices = jobs_of(tasks, plan, name)
    check_whole(begin)
    check_whole(end)
    return sum([plan[index][2] for index in indices if begin <= plan[index][0] < end])
