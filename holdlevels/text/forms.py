"""The forms of numbers in texts, and of papers, whatever tasks they are about."""

from holdlevels.checks import is_between
from holdlevels.tasks.tasks import is_name

MOST_DIGITS = 40
# No text has a greater number.
MOST = 10 ** 40 - 1


def are_digits(word, most):
    """Return whether a word consists of one or more digits, at most so many."""
    return 1 <= len(word) <= most and all(["0" <= sign <= "9" for sign in word])


def _is_job(value):
    """Return whether the value has the form of a job."""
    if not isinstance(value, tuple) or len(value) != 3:
        return False
    tick, name, length = value
    return is_between(tick, 0, MOST) and is_name(name) and is_between(length, 1, MOST)


def _is_plan(value):
    """Return whether the value has the form of a plan."""
    if not isinstance(value, tuple) or not all([_is_job(job) for job in value]):
        return False
    return all([job < later for job, later in zip(value, value[1:])])


def _is_step(value, many):
    """Return whether the value is a tuple of so many names and a plan."""
    if not isinstance(value, tuple) or len(value) != many + 1:
        return False
    return all([is_name(name) for name in value[:many]]) and _is_plan(value[many])


def _are_steps(value, many):
    """Return whether the value is a tuple of tuples of so many names and a plan."""
    return isinstance(value, tuple) and all([_is_step(step, many) for step in value])


def _is_pair(value):
    """Return whether the value is a pair of integers of at least 0."""
    return isinstance(value, tuple) and len(value) == 2 and all([is_between(part, 0, MOST) for part in value])


def _is_table(value):
    """Return whether the value has the form of a table."""
    if not isinstance(value, tuple) or len(value) != 2:
        return False
    length, pairs = value
    if not is_between(length, 1, MOST) or not isinstance(pairs, tuple) or not pairs:
        return False
    return all([_is_pair(pair) for pair in pairs])


def _are_tables(value):
    """Return whether the value is a dict from names to what has the form of tables."""
    if not isinstance(value, dict):
        return False
    return all([is_name(name) and _is_table(table) for name, table in value.items()])


def is_paper_form(value):
    """Return whether the value has the form of a levels paper or a state paper."""
    if not isinstance(value, tuple) or not value:
        return False
    word = value[0]
    if len(value) == 2:
        return word == "good" and _are_tables(value[1])
    if len(value) == 4:
        return word == "none" and _are_steps(value[1], 2) and _is_step(value[2:], 1)
    if len(value) != 3:
        return False
    if word == "late":
        return _is_step(value[1:], 1)
    if word == "least":
        return _are_steps(value[1], 1) and _are_tables(value[2])
    return word == "greatest" and _are_steps(value[1], 2) and _are_tables(value[2])
