"""Chains: tasks that can be started at once, and the room that they need."""

from holdlevels.checks import is_whole
from holdlevels.errors import InvalidOperation
from holdlevels.tasks.levels import check_levels
from holdlevels.tasks.tasks import LONGEST, ROOM


def ends_of(levels):
    """Return the ends of the reaches of all tasks, by their urgencies."""
    return [levels.reach(name)[1] for name in levels.tasks.names]


def is_chain(levels, value):
    """Return whether the value is the tuple of the names of a chain."""
    check_levels(levels)
    if not isinstance(value, tuple):
        return False
    end = -1
    for name in value:
        if name not in levels.tasks or levels.tasks.urgency(name) <= end:
            return False
        end = levels.reach(name)[1]
    return True


def chains(levels):
    """Yield all chains, those with fewer tasks first, then ascending by the urgencies."""
    check_levels(levels)
    names = levels.tasks.names
    ends = ends_of(levels)
    # The last item of a row is the end of its last reach.
    rows = [((), -1)]
    while rows:
        for urgencies, _ in rows:
            yield tuple([names[urgency] for urgency in urgencies])
        rows = [
            ((*urgencies, urgency), ends[urgency])
            for urgencies, end in rows
            for urgency in range(end + 1, len(names))
        ]


def _greatest_rooms(levels):
    """Return for each urgency, and for n, the greatest room of a chain of tasks with at least this urgency."""
    tasks = levels.tasks.tasks
    ends = ends_of(levels)
    found = [0] * (len(tasks) + 1)
    for urgency in range(len(tasks) - 1, -1, -1):
        found[urgency] = max(found[urgency + 1], tasks[urgency][ROOM] + found[ends[urgency] + 1])
    return found


def heaviest_chain(levels):
    """Return a chain with the greatest room."""
    check_levels(levels)
    names = levels.tasks.names
    ends = ends_of(levels)
    greatest = _greatest_rooms(levels)
    found = []
    urgency = 0
    while urgency < len(names):
        if greatest[urgency] > greatest[urgency + 1]:
            found.append(names[urgency])
            urgency = ends[urgency] + 1
        else:
            urgency += 1
    return tuple(found)


def most_room(levels):
    """Return the greatest room of a chain."""
    check_levels(levels)
    return _greatest_rooms(levels)[0]


def rooms(levels):
    """Return rooms with the least sum."""
    check_levels(levels)
    greatest = _greatest_rooms(levels)
    # Those of a reach are together at least what its task adds to a chain behind the reach.
    return tuple([greatest[urgency] - greatest[urgency + 1] for urgency in range(len(levels))])


def room_paper(levels):
    """Return a paper that shows the most room."""
    names = heaviest_chain(levels)
    return "room", names, rooms(levels)


def _are_rooms(levels, value):
    """Return whether the value is rooms of the levels, of whatever sum."""
    if not isinstance(value, tuple) or len(value) != len(levels):
        return False
    if not all([is_whole(part) and part >= 0 for part in value]):
        return False
    for urgency, end in enumerate(ends_of(levels)):
        if sum(value[urgency:end + 1]) < levels.tasks.tasks[urgency][ROOM]:
            return False
    return True


def is_room_paper(levels, value):
    """Return whether the value is a paper that shows the most room."""
    check_levels(levels)
    if not isinstance(value, tuple) or len(value) != 3:
        return False
    word, names, parts = value
    if word != "room" or not is_chain(levels, names) or not _are_rooms(levels, parts):
        return False
    return sum([levels.tasks[name][ROOM] for name in names]) == sum(parts)


def chain_plan(levels, *names):
    """Return a plan with one job of each of these tasks, which are all started at some tick of its run."""
    if not is_chain(levels, names) or not names:
        raise InvalidOperation("these names are no chain, or there are none")
    jobs = []
    tick = 0
    for name in names:
        longest = levels.tasks[name][LONGEST]
        jobs.append((tick, name, longest))
        tick += longest - 1
    return tuple(jobs)
