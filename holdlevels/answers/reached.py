"""Plans in whose runs the worst answers are reached."""

from holdlevels.answers.demands import is_in_time, least_round, works_of
from holdlevels.answers.holdups import delay_of, longest_holdup
from holdlevels.answers.worst import answer_table, worst_answer
from holdlevels.checks import check_between
from holdlevels.runs.plans import is_plan
from holdlevels.runs.runs import Run
from holdlevels.tasks.levels import check_levels
from holdlevels.tasks.tasks import DEADLINE, GAP, LONGEST, NAME


def plan_behind(tasks, urgency, holdup):
    """Return the plan in which a holdup comes first, and then as much as can be while the round goes on."""
    lower, _, ticks, ran = holdup
    length = least_round(works_of(tasks, urgency), ticks)
    jobs = []
    if ticks > 0:
        jobs.append((0, lower, tasks[lower][LONGEST]))
    for task in tasks.tasks[urgency:]:
        name, longest, gap = task[:GAP + 1]
        jobs.extend([(tick, name, longest) for tick in range(ran, ran + length, gap)])
    return tuple(sorted(jobs))


def less_urgent_jobs(tasks, name, plan):
    """Return the jobs of a plan of all tasks that are less urgent than this one."""
    urgency = tasks.urgency(name)
    lower = tasks.names[:urgency]
    return [job for job in plan if job[1] in lower]


def is_about(tasks, name, value):
    """Return whether the value is a plan about a task."""
    return is_plan(tasks, value) and len(less_urgent_jobs(tasks, name, value)) <= 1


def worst_plan(levels, name):
    """Return a plan about a task in whose run a job of it has the worst answer."""
    check_levels(levels)
    tasks = levels.tasks
    urgency = tasks.urgency(name)
    return plan_behind(tasks, urgency, longest_holdup(levels, urgency))


def is_worst_plan(levels, name, value):
    """Return whether the value is a plan about a task in whose run a job of it has the worst answer."""
    worst = worst_answer(levels, name)
    if not is_about(levels.tasks, name, value):
        return False
    answers = Run(levels, value).answers
    return worst in [answer for job, answer in zip(value, answers) if job[1] == name]


def reaching_plan(levels, name, number):
    """Return a plan about a task in which its job with this number has its answer of the least table."""
    _, pairs = answer_table(levels, name)
    check_between(number, 0, len(pairs) - 1)
    return worst_plan(levels, name)


def late_name(levels):
    """Return the name of the first task with a worst answer greater than its deadline, or None."""
    works = works_of(levels.tasks)
    for urgency, task in enumerate(levels.tasks.tasks):
        if not is_in_time(works, urgency, levels.numbers[urgency], delay_of(levels, urgency), task[DEADLINE]):
            return task[NAME]
    return None


def late_plan(levels):
    """Return a plan in whose run some job is late, or None if the levels are good."""
    check_levels(levels)
    name = late_name(levels)
    if name is None:
        return None
    return worst_plan(levels, name)
