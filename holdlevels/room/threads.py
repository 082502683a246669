"""Threads: groups of tasks of which no two are ever started at once."""

from holdlevels.room.chains import ends_of, is_chain
from holdlevels.tasks.levels import check_levels


def may_share(levels, name, other):
    """Return whether two tasks can share a thread."""
    check_levels(levels)
    first, last = levels.reach(name)
    other_first, other_last = levels.reach(other)
    return max(first, other_first) <= min(last, other_last)


def _places(levels):
    """Return the fewest urgencies of which each reach has one, descending; their tasks are a chain."""
    places = []
    for urgency, end in reversed(list(enumerate(ends_of(levels)))):
        if not places or end < places[-1]:
            places.append(urgency)
    return places


def threads(levels):
    """Return threads with the fewest groups."""
    check_levels(levels)
    names = levels.tasks.names
    groups = []
    begin = 0
    for place in _places(levels)[::-1]:
        groups.append(names[begin:place + 1])
        begin = place + 1
    return tuple(groups)


def _is_group(levels, value):
    """Return whether the value is a tuple of tasks that can share a thread, by ascending urgency."""
    if not isinstance(value, tuple) or not value:
        return False
    if not all([name in levels.tasks for name in value]):
        return False
    urgencies = [levels.tasks.urgency(name) for name in value]
    if urgencies != sorted(urgencies):
        return False
    # All of them share the urgency of the last one if any urgency is in all reaches.
    return urgencies[-1] <= min([levels.reach(name)[1] for name in value])


def is_threads(levels, value):
    """Return whether the value is threads, with however many groups."""
    check_levels(levels)
    if not isinstance(value, tuple) or not all([_is_group(levels, group) for group in value]):
        return False
    found = [name for group in value for name in group]
    if sorted(found) != sorted(levels.tasks.names):
        return False
    firsts = [levels.tasks.urgency(group[0]) for group in value]
    return firsts == sorted(firsts)


def thread_paper(levels):
    """Return a paper that shows the fewest threads."""
    groups = threads(levels)
    names = levels.tasks.names
    return "threads", groups, tuple([names[place] for place in _places(levels)[::-1]])


def is_thread_paper(levels, value):
    """Return whether the value is a paper that shows the fewest threads."""
    check_levels(levels)
    if not isinstance(value, tuple) or len(value) != 3:
        return False
    word, groups, names = value
    if word != "threads" or not is_threads(levels, groups) or not is_chain(levels, names):
        return False
    return len(groups) == len(names)
