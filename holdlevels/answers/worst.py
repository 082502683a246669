"""Delays and worst answers of tasks under levels, and the tables that show them."""

from holdlevels.answers.demands import greatest_answer, is_table, least_table, shown_answers
from holdlevels.answers.holdups import delay_of, demand_of, holdups
from holdlevels.errors import InvalidOperation
from holdlevels.tasks.levels import check_levels


def _demand(levels, name):
    """Return what comes ahead of the ends of the jobs of a task, or raise the errors."""
    check_levels(levels)
    return demand_of(levels, levels.tasks.urgency(name))


def delay(levels, name):
    """Return the delay of a task."""
    check_levels(levels)
    return delay_of(levels, levels.tasks.urgency(name))


def delayers(levels, name):
    """Return the pairs (task, lock) from which the delay of a task comes."""
    check_levels(levels)
    urgency = levels.tasks.urgency(name)
    most = delay_of(levels, urgency)
    if most == 0:
        return ()
    return tuple([(lower, lock) for lower, lock, ticks, _ in holdups(levels, urgency) if ticks == most])


def worst_answer(levels, name):
    """Return the worst answer of a task."""
    return greatest_answer(_demand(levels, name))


def worst_answers(levels):
    """Return a dict from all names to the worst answers."""
    check_levels(levels)
    return {name: worst_answer(levels, name) for name in sorted(levels.tasks.names)}


def worst_job(levels, name):
    """Return the first number of a job of the round that has the worst answer."""
    demand = _demand(levels, name)
    answers = shown_answers(demand, least_table(demand))
    return answers.index(max(answers))


def answer_table(levels, name):
    """Return the table of least numbers of a task."""
    return least_table(_demand(levels, name))


def is_answer_table(levels, name, value):
    """Return whether the value is a table of the task, whatever it shows."""
    return is_table(_demand(levels, name), value)


def shown_by(levels, name, table):
    """Return the greatest answer that a table shows."""
    demand = _demand(levels, name)
    if not is_table(demand, table):
        raise InvalidOperation("this is not a table of the task")
    return max(shown_answers(demand, table))
