"""Plans: the jobs of a run."""

from holdlevels.checks import check_between, check_whole, is_whole
from holdlevels.errors import InvalidOperation, InvalidPlan, UnknownName
from holdlevels.tasks.tasks import GAP, LONGEST, NAME
from holdlevels.tasks.tasksets import check_tasks

MAX_TICK = 20000


def _have_form(value):
    """Return whether the value is a tuple of tuples like jobs, which can be sorted."""
    if not isinstance(value, tuple):
        return False
    if not all([isinstance(job, tuple) and len(job) == 3 for job in value]):
        return False
    return all([is_whole(tick) and isinstance(name, str) and is_whole(length) for tick, name, length in value])


def _are_apart(tasks, value):
    """Return whether the items of a tuple are jobs of the tasks, those of each task at least its gap apart."""
    rows = {task[NAME]: [0, task[LONGEST], task[GAP]] for task in tasks.tasks}
    # A plan can have many thousands of jobs: so no function is called for a job unless a number is of a rare kind.
    try:
        for job in value:
            if not isinstance(job, tuple) or len(job) != 3:
                return False
            tick, name, length = job
            if not isinstance(name, str):
                return False
            row = rows[name]
            free, longest, gap = row
            if type(tick) is not int and not is_whole(tick):
                return False
            if type(length) is not int and not is_whole(length):
                return False
            if tick < free or length < 1 or length > longest:
                return False
            row[0] = tick + gap
    except KeyError:
        return False
    return True


def is_plan(tasks, value):
    """Return whether the value is a plan of the tasks."""
    check_tasks(tasks)
    if not isinstance(value, tuple) or not _are_apart(tasks, value):
        return False
    # Only what is known to be jobs can be sorted; the last one of ascending jobs has the greatest tick.
    return list(value) == sorted(value) and (not value or value[-1][0] <= MAX_TICK)


def check_plan(tasks, plan):
    """Raise InvalidTasks if the tasks are none, InvalidPlan if the value is not a plan of them."""
    if not is_plan(tasks, plan):
        raise InvalidPlan("this is not a plan of the tasks")


def make_plan(tasks, *jobs):
    """Return the plan with these jobs, which come in any order."""
    return plan_of(tasks, jobs)


def plan_of(tasks, jobs):
    """Return the plan with the jobs of a tuple, which come in any order."""
    check_tasks(tasks)
    if not _have_form(jobs):
        raise InvalidPlan("this is not a tuple of jobs")
    plan = tuple(sorted(jobs))
    check_plan(tasks, plan)
    return plan


def dense_plan(tasks, ticks, *names):
    """Return the plan in which these tasks release as much as they can, below the ticks."""
    return dense_plan_of(tasks, ticks, names)


def dense_plan_of(tasks, ticks, names):
    """Return the plan in which the tasks of a tuple release as much as they can, below the ticks."""
    check_tasks(tasks)
    check_between(ticks, 0, MAX_TICK)
    if not isinstance(names, tuple):
        raise InvalidOperation("this is not a tuple of names")
    for name in names:
        if name not in tasks:
            raise UnknownName(name)
    jobs = []
    for task in tasks.tasks:
        name, longest, gap = task[:GAP + 1]
        if not names or name in names:
            jobs.extend([(tick, name, longest) for tick in range(0, ticks, gap)])
    return tuple(sorted(jobs))


def shifted(tasks, plan, ticks):
    """Return the plan with all jobs so many ticks later."""
    check_plan(tasks, plan)
    check_whole(ticks)
    # Jobs that are shifted stay as far apart as they were.
    if plan and (plan[0][0] + ticks < 0 or plan[-1][0] + ticks > MAX_TICK):
        raise InvalidPlan("no job is released at such a tick")
    return tuple([(tick + ticks, name, length) for tick, name, length in plan])


def merged(tasks, plan, other):
    """Return the plan with the jobs of both."""
    check_plan(tasks, plan)
    check_plan(tasks, other)
    both = tuple(sorted(set(plan + other)))
    check_plan(tasks, both)
    return both


def without_jobs(tasks, plan, *indices):
    """Return the plan without the jobs with these indices."""
    check_plan(tasks, plan)
    for index in indices:
        check_between(index, 0, len(plan) - 1)
    gone = {index: True for index in indices}
    return tuple([job for index, job in enumerate(plan) if index not in gone])


def shortened(tasks, plan, index, length):
    """Return the plan in which one job has another length, not a greater one."""
    check_plan(tasks, plan)
    check_between(index, 0, len(plan) - 1)
    tick, name, most = plan[index]
    check_between(length, 1, most)
    return plan[:index] + ((tick, name, length),) + plan[index + 1:]


def is_thinner(tasks, plan, value):
    """Return whether the value is a plan that is thinner than the plan."""
    check_plan(tasks, plan)
    if not is_plan(tasks, value):
        return False
    lengths = {(tick, name): length for tick, name, length in plan}
    return all([length <= lengths.get((tick, name), 0) for tick, name, length in value])


def _check_name(tasks, plan, name):
    """Raise the errors of a plan and of a name."""
    check_plan(tasks, plan)
    if name not in tasks:
        raise UnknownName(name)


def jobs_of(tasks, plan, name):
    """Return the indices of the jobs of a task."""
    _check_name(tasks, plan, name)
    return tuple([index for index, job in enumerate(plan) if job[1] == name])


def work_in(tasks, plan, name, begin, end):
    """Return how long the jobs of a task run that are released from begin on, and before end."""
    _check_name(tasks, plan, name)
    check_whole(begin)
    check_whole(end)
    return sum([length for tick, other, length in plan if other == name and begin <= tick < end])
