"""A task: its name, its numbers, and its sections."""

from holdlevels.checks import check_between, is_between, is_whole
from holdlevels.errors import InvalidOperation, InvalidTask

FIELDS = ("name", "longest", "gap", "deadline", "room", "sections")
NAME = 0
LONGEST = 1
GAP = 2
DEADLINE = 3
ROOM = 4
SECTIONS = 5
NUMBERS = ("longest", "gap", "deadline", "room")
LEAST_NUMBERS = (1, 1, 1, 0)
GREATEST_NUMBERS = (100, 1000, 20000, 1000000)
MAX_LETTERS = 8
MAX_SECTIONS = 8


def is_name(value):
    """Return whether the value is a name."""
    if not isinstance(value, str) or not 1 <= len(value) <= MAX_LETTERS:
        return False
    return all(["a" <= letter <= "z" for letter in value])


def _is_section(value):
    """Return whether the value is a section, wherever it begins and ends."""
    if not isinstance(value, tuple) or len(value) != 3:
        return False
    begin, end, lock = value
    return is_whole(begin) and is_whole(end) and is_name(lock)


def _are_sections(value, longest):
    """Return whether the value are the sections of a task with this longest run."""
    if not isinstance(value, tuple) or len(value) > MAX_SECTIONS:
        return False
    if not all([_is_section(section) for section in value]):
        return False
    free = 0
    for begin, end, _ in value:
        if not free <= begin < end < longest:
            return False
        free = end
    return True


def _are_numbers(value):
    """Return whether the four values are the numbers of a task."""
    for number, least, most in zip(value, LEAST_NUMBERS, GREATEST_NUMBERS):
        if not is_between(number, least, most):
            return False
    return True


def is_task(value):
    """Return whether the value is a task."""
    if not isinstance(value, tuple) or len(value) != len(FIELDS):
        return False
    if not is_name(value[NAME]) or not _are_numbers(value[LONGEST:SECTIONS]):
        return False
    return _are_sections(value[SECTIONS], value[LONGEST])


def check_task(task):
    """Raise InvalidTask if the value is not a task."""
    if not is_task(task):
        raise InvalidTask("this is not a task")


def _built_task(name, longest, gap, sections, deadline, room):
    """Return the task with these parts, the sections in any order."""
    # Only what is known to be sections can be sorted.
    if not isinstance(sections, tuple) or not all([_is_section(section) for section in sections]):
        raise InvalidTask("these are not sections")
    if deadline is None:
        deadline = gap
    task = (name, longest, gap, deadline, room, tuple(sorted(sections)))
    check_task(task)
    return task


def make_task(name, longest, gap, *sections, deadline=None, room=1):
    """Return the task with these parts."""
    return _built_task(name, longest, gap, sections, deadline, room)


def task_by(values):
    """Return the task with the parts that a dict tells."""
    if not isinstance(values, dict) or not all([key in FIELDS for key in values]):
        raise InvalidTask("this is not a dict of the parts of a task")
    if not all([key in values for key in ("name", "longest", "gap")]):
        raise InvalidTask("a part of the task is missing")
    return _built_task(
        values["name"],
        values["longest"],
        values["gap"],
        values.get("sections", ()),
        values.get("deadline"),
        values.get("room", 1),
    )


def changed_task(task, **numbers):
    """Return the task with other numbers."""
    return changed_task_by(task, numbers)


def changed_task_by(task, numbers):
    """Return the task with the other numbers that a dict tells."""
    check_task(task)
    if not isinstance(numbers, dict) or not all([key in NUMBERS for key in numbers]):
        raise InvalidOperation("this is not a dict of the numbers of a task")
    changed = tuple([numbers.get(field, part) for field, part in zip(FIELDS, task)])
    check_task(changed)
    return changed


def lock_inside(task, ran):
    """Return the lock of the section inside which a job is behind so many ticks, or None."""
    check_task(task)
    check_between(ran, 0, task[LONGEST] - 1)
    for begin, end, lock in task[SECTIONS]:
        if begin < ran < end:
            return lock
    return None


def section_lengths(task):
    """Return a dict from the locks of the task to its longest section with each."""
    check_task(task)
    lengths = {}
    for begin, end, lock in task[SECTIONS]:
        lengths[lock] = max(end - begin, lengths.get(lock, 0))
    return {lock: lengths[lock] for lock in sorted(lengths)}
