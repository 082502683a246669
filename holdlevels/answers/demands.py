"""Rounds and tables of answers: the least ones, and those that somebody else made."""

from holdlevels.checks import is_whole
from holdlevels.tasks.tasks import GAP, LONGEST

MAX_DELAY = 99


def works_of(tasks, urgency=0):
    """Return the pairs (gap, longest) of all tasks with at least this urgency, by their urgencies."""
    return [(task[GAP], task[LONGEST]) for task in tasks.tasks[urgency:]]


class Demand:
    """What comes ahead of the end of a job: a delay, its own task, and the more urgent ones.

    The works are those of its own task and of the more urgent ones. The near tasks are those up to
    the level, which never interrupt the job; the far ones do.
    """

    def __init__(self, tasks, urgency, level, held):
        works = works_of(tasks, urgency)
        self.works = works
        self.held = held
        self.gap, self.longest = works[0]
        self.near = works[1:level - urgency + 1]
        self.far = works[level - urgency + 1:]


def work_before(works, tick):
    """Return how long all runs that are released before a tick, from 0 on, as often as can be."""
    return sum([-(-tick // gap) * longest for gap, longest in works])


def work_until(works, tick):
    """Return how long all runs that are released at a tick or before it, as often as can be."""
    return sum([(tick // gap + 1) * longest for gap, longest in works])


def _done_before(ahead, works, tick):
    """Return the least tick, none below the given one, up to which all is done that is released before it.

    What is ahead is done as well. No lesser tick than the given one must be such a tick.
    """
    while True:
        needed = ahead
        for gap, longest in works:
            needed -= -tick // gap * longest
        if needed == tick:
            return tick
        tick = needed


def _done_until(ahead, works, tick):
    """Return the least tick, as before, up to which all is done that is released at it or before it."""
    while True:
        needed = ahead
        for gap, longest in works:
            needed += (tick // gap + 1) * longest
        if needed == tick:
            return tick
        tick = needed


def least_round(works, held):
    """Return the least tick above 0 at which all is done that was released before."""
    return _done_before(held, works, 1)


def _time_left(works):
    """Return the share of all time that the works leave, as a pair of integers, and the sum of their runs."""
    upper, lower, total = 1, 1, 0
    for gap, longest in works:
        upper = upper * gap - longest * lower
        lower = lower * gap
        total += longest
    return upper, lower, total


def is_in_time(works, urgency, level, held, deadline):
    """Return whether no answer of a task at a level, with this delay, is greater than its deadline.

    The works are those of all tasks.
    """
    gap, longest = works[urgency]
    higher = works[urgency + 1:]
    near = works[urgency + 1:level + 1]
    far = works[level + 1:]
    ahead = begin = held
    release = 0
    upper = None
    while True:
        start = _done_until(ahead, higher, begin)
        ahead += longest
        end = start + longest
        if far:
            end = _done_before(ahead + work_until(near, start), far, end)
        if end - release > deadline:
            return False
        begin = end
        if near:
            begin = _done_before(ahead, higher, end)
        release += gap
        # The round goes on if a job is released before all ahead of it is done.
        if begin <= release:
            return True
        if upper is None:
            upper, lower, total = _time_left(higher)
        # Up to an end there is at most one run of each task more than its share of the time: so the
        # answer of the next job is at most this, and those of all later ones are less.
        if (ahead + longest + total) * lower <= (deadline + release) * upper:
            return True


def _releases(works, end):
    """Return the ascending pairs (tick, longest) of all that is released before the end."""
    found = []
    for gap, longest in works:
        found.extend([(tick, longest) for tick in range(0, end, gap)])
    return sorted(found)


def _least_starts(demand, length):
    """Return the least starts of all jobs of a round."""
    coming = _releases(demand.near + demand.far, length)
    place = 0
    start = demand.held
    starts = []
    for _ in range(0, length, demand.gap):
        while place < len(coming) and coming[place][0] <= start:
            start += coming[place][1]
            place += 1
        starts.append(start)
        start += demand.longest
    return starts


def _least_ends(demand, length, starts):
    """Return the least ends of all jobs of a round for their least starts."""
    coming = _releases(demand.far, length)
    place = 0
    ends = []
    for start in starts:
        while place < len(coming) and coming[place][0] <= start:
            place += 1
        # What comes while this job is started comes ahead of the next start, too.
        end = start + demand.longest
        later = place
        while later < len(coming) and coming[later][0] < end:
            end += coming[later][1]
            later += 1
        ends.append(end)
    return ends


def least_table(demand):
    """Return the table of least numbers."""
    length = least_round(demand.works, demand.held)
    starts = _least_starts(demand, length)
    ends = _least_ends(demand, length, starts)
    return length, tuple(zip(starts, ends))


def shown_answers(demand, table):
    """Return the answers of the jobs of a table."""
    return [end - number * demand.gap for number, (_, end) in enumerate(table[1])]


def greatest_answer(demand):
    """Return the greatest answer that the table of least numbers shows."""
    return max(shown_answers(demand, least_table(demand)))


def _is_pair(value):
    """Return whether the value is a pair of integers of at least 0."""
    if not isinstance(value, tuple) or len(value) != 2:
        return False
    return all([is_whole(part) and part >= 0 for part in value])


def _is_late_enough(demand, number, pair):
    """Return whether a start and an end leave time for all that comes ahead of them."""
    start, end = pair
    ahead = demand.held + number * demand.longest + work_until(demand.near, start)
    if start < ahead + work_until(demand.far, start):
        return False
    return end >= ahead + demand.longest + work_before(demand.far, end)


def is_table(demand, value):
    """Return whether the value is a table, of whatever numbers."""
    if not isinstance(value, tuple) or len(value) != 2:
        return False
    length, pairs = value
    if not is_whole(length) or length < 1 or not isinstance(pairs, tuple):
        return False
    if length < demand.held + work_before(demand.works, length) or len(pairs) != -(-length // demand.gap):
        return False
    if not all([_is_pair(pair) for pair in pairs]):
        return False
    return all([_is_late_enough(demand, number, pair) for number, pair in enumerate(pairs)])
