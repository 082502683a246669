"""Margins: how hard one number of a task can become while there are good levels."""

from holdlevels.checks import is_between
from holdlevels.errors import InvalidOperation, NoLevels, Overload
from holdlevels.good.greatest import greatest_levels, is_levels_paper, levels_paper
from holdlevels.tasks.tasks import GREATEST_NUMBERS, LEAST_NUMBERS, NUMBERS, SECTIONS
from holdlevels.tasks.tasksets import check_tasks

WORDS = ("longest", "gap", "deadline")


def _check(tasks, name, number):
    """Raise the errors of tasks, a name, and a number of its task."""
    check_tasks(tasks)
    tasks.urgency(name)
    if number not in WORDS:
        raise InvalidOperation("this is not a number of a task")


def _bounds(task, number):
    """Return the easiest and the hardest value of a number of a task."""
    place = NUMBERS.index(number)
    least, greatest = LEAST_NUMBERS[place], GREATEST_NUMBERS[place]
    if number != "longest":
        return greatest, least
    if task[SECTIONS]:
        least = task[SECTIONS][-1][1] + 1
    return least, greatest


def _way(number):
    """Return the difference from a value of a number to the next harder one."""
    if number == "longest":
        return 1
    return -1


def _with_value(tasks, name, number, value):
    """Return the tasks with a value, or None if their load would be too great."""
    try:
        return tasks.changed_by(name, {number: value})
    except Overload:
        return None


def _is_possible(tasks, name, number, value):
    """Return whether there are tasks with a value, and good levels of them."""
    changed = _with_value(tasks, name, number, value)
    return changed is not None and greatest_levels(changed) is not None


def margin(tasks, name, number):
    """Return the hardest possible value of a number of a task, or None."""
    _check(tasks, name, number)
    easiest, hardest = _bounds(tasks[name], number)
    if not _is_possible(tasks, name, number, easiest):
        return None
    low, high = 0, abs(hardest - easiest)
    while low < high:
        middle = (low + high + 1) // 2
        if _is_possible(tasks, name, number, easiest + middle * _way(number)):
            low = middle
        else:
            high = middle - 1
    return easiest + low * _way(number)


def margins(tasks):
    """Return a dict from all names to the margins of the longest run, the gap, and the deadline."""
    check_tasks(tasks)
    return {name: tuple([margin(tasks, name, number) for number in WORDS]) for name in sorted(tasks.names)}


def _easiest_tasks(tasks, name, number):
    """Return the tasks with the easiest value, whose load is never greater."""
    return tasks.changed_by(name, {number: _bounds(tasks[name], number)[0]})


def at_margin(tasks, name, number):
    """Return the tasks with the margin."""
    value = margin(tasks, name, number)
    if value is None:
        raise NoLevels(levels_paper(_easiest_tasks(tasks, name, number)))
    return tasks.changed_by(name, {number: value})


def _word_beyond(tasks, name, number, value):
    """Return why there are no tasks with a value, in a word, or None if there are some."""
    if value == _bounds(tasks[name], number)[1] + _way(number):
        return "bound"
    if _with_value(tasks, name, number, value) is None:
        return "load"
    return None


def margin_paper(tasks, name, number):
    """Return a paper that shows the margin."""
    value = margin(tasks, name, number)
    if value is None:
        return None, None, levels_paper(_easiest_tasks(tasks, name, number))
    beyond = value + _way(number)
    outside = _word_beyond(tasks, name, number, beyond)
    if outside is None:
        outside = levels_paper(_with_value(tasks, name, number, beyond))
    return value, levels_paper(_with_value(tasks, name, number, value)), outside


def _is_paper(tasks, word, value):
    """Return whether the value is a levels paper of the tasks with this first word."""
    return is_levels_paper(tasks, value) and value[0] == word


def _is_inside(tasks, name, number, value, paper):
    """Return whether a levels paper shows that a value is possible."""
    bounds = sorted(_bounds(tasks[name], number))
    if not is_between(value, bounds[0], bounds[1]):
        return False
    changed = _with_value(tasks, name, number, value)
    return changed is not None and _is_paper(changed, "greatest", paper)


def _is_outside(tasks, name, number, value, outside):
    """Return whether a word or a paper shows that the value beyond a possible one is not possible."""
    word = _word_beyond(tasks, name, number, value)
    if word is not None:
        return outside == word
    return _is_paper(_with_value(tasks, name, number, value), "none", outside)


def is_margin_paper(tasks, name, number, value):
    """Return whether the value is a paper that shows the margin."""
    _check(tasks, name, number)
    if not isinstance(value, tuple) or len(value) != 3:
        return False
    found, inside, outside = value
    if found is None:
        return inside is None and _is_paper(_easiest_tasks(tasks, name, number), "none", outside)
    if not _is_inside(tasks, name, number, found, inside):
        return False
    return _is_outside(tasks, name, number, found + _way(number), outside)
