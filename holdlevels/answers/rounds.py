"""Rounds of tasks, and the starts and ends of the jobs in them."""

from holdlevels.answers.demands import MAX_DELAY, Demand, least_round, least_table, shown_answers, works_of
from holdlevels.checks import check_between, check_not_negative
from holdlevels.tasks.tasksets import check_tasks


def _checked_pair(tasks, name, number, level, delay):
    """Return the start and the end of a job, or raise the errors from the number on."""
    urgency = tasks.urgency(name)
    check_not_negative(number)
    check_between(level, urgency, len(tasks) - 1)
    check_between(delay, 0, MAX_DELAY)
    _, pairs = least_table(Demand(tasks, urgency, level, delay))
    check_between(number, 0, len(pairs) - 1)
    return pairs[number]


def round_length(tasks, name, *, delay=0):
    """Return the round of a task."""
    check_tasks(tasks)
    urgency = tasks.urgency(name)
    check_between(delay, 0, MAX_DELAY)
    return least_round(works_of(tasks, urgency), delay)


def start_time(tasks, name, number, *, delay=0):
    """Return the start of the job with this number."""
    check_tasks(tasks)
    # A start is the same at all levels.
    return _checked_pair(tasks, name, number, len(tasks) - 1, delay)[0]


def end_time(tasks, name, number, level, *, delay=0):
    """Return the end of the job with this number at a level of its task."""
    check_tasks(tasks)
    return _checked_pair(tasks, name, number, level, delay)[1]


def answers_by(tasks, name, level, *, delay=0):
    """Yield the times from the releases of the jobs of a round to their ends."""
    check_tasks(tasks)
    urgency = tasks.urgency(name)
    check_between(level, urgency, len(tasks) - 1)
    check_between(delay, 0, MAX_DELAY)
    demand = Demand(tasks, urgency, level, delay)
    for answer in shown_answers(demand, least_table(demand)):
        yield answer
