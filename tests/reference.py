"""A slow second way to find what a run does, told as in 0.12, and random values to compare it with."""

from fractions import Fraction

from holdlevels.runs.plans import plan_of
from holdlevels.tasks.levels import Levels
from holdlevels.tasks.tasks import make_task
from holdlevels.tasks.tasksets import Tasks


def hold(levels, name, ran):
    """Return the hold of a started job that has run so many ticks."""
    tasks = levels.tasks
    found = levels[name]
    for begin, end, lock in tasks[name][5]:
        if begin < ran < end:
            found = max(found, max([tasks.urgency(task[0]) for task in tasks.tasks if lock in [row[2] for row in task[5]]]))
    return found


def played(levels, plan):
    """Return the log, the stacks of indices, the starts and the ends of the run."""
    tasks = levels.tasks
    ran = [0] * len(plan)
    starts, ends = [None] * len(plan), [None] * len(plan)
    order, log, stacks = [], [], []
    tick = 0
    while None in ends:
        stack = [index for index in order if ends[index] is None]
        waiting = [index for index, job in enumerate(plan) if job[0] <= tick and starts[index] is None]
        if waiting:
            best = max(waiting, key=lambda index: (tasks.urgency(plan[index][1]), -plan[index][0]))
            urgency = tasks.urgency(plan[best][1])
            if not stack or urgency > hold(levels, plan[stack[-1]][1], ran[stack[-1]]):
                starts[best] = tick
                order.append(best)
                stack.append(best)
        stacks.append(tuple(stack))
        log.append(plan[stack[-1]][1] if stack else None)
        tick += 1
        if stack:
            ran[stack[-1]] += 1
            if ran[stack[-1]] == plan[stack[-1]][2]:
                ends[stack[-1]] = tick
    return tuple(log), tuple(stacks), tuple(starts), tuple(ends)


def some_tasks(luck):
    """Return tasks with a load of at most 9/10."""
    rows = []
    for name in ("a", "b", "c", "d")[:luck.randint(1, 4)]:
        longest = luck.randint(1, 8)
        cuts = sorted(luck.sample(range(longest), luck.choice([0, 0, 2, 4]) if longest >= 4 else 0))
        sections = [(cuts[at], cuts[at + 1], luck.choice(["x", "y"])) for at in range(0, len(cuts), 2)]
        rows.append(make_task(name, longest, luck.randint(5 * longest, 8 * longest), *sections, deadline=luck.randint(1, 30),
                              room=luck.randint(0, 5)))
    return Tasks(*rows)


def some_levels(luck, tasks):
    """Return any levels of the tasks."""
    return Levels(tasks, *[luck.randint(urgency, len(tasks) - 1) for urgency in range(len(tasks))])


def some_plan(luck, tasks):
    """Return any plan of the tasks."""
    jobs = []
    for name, longest, gap, _, _, _ in tasks.tasks:
        tick = luck.randint(0, 10)
        for _ in range(luck.randint(0, 5)):
            jobs.append((tick, name, luck.randint(1, longest)))
            tick += gap + luck.choice([0, 0, 1, 5, 30])
    return plan_of(tasks, tuple(jobs))


def busy_tasks(luck):
    """Return tasks with a load of more than 7/10, so that rounds have many jobs, with some sections."""
    while True:
        rows = []
        for name in ("a", "b", "c", "d")[:luck.randint(1, 4)]:
            longest = luck.randint(1, 7)
            cuts = sorted(luck.sample(range(longest), luck.choice([0, 2, 4]) if longest >= 4 else 0))
            sections = [(cuts[at], cuts[at + 1], luck.choice(["x", "y"])) for at in range(0, len(cuts), 2)]
            rows.append(make_task(name, longest, luck.randint(longest + 1, luck.choice([3, 6, 20]) * longest), *sections,
                                  deadline=luck.randint(1, 60), room=luck.randint(0, 5)))
        if Fraction(7, 10) < sum([Fraction(row[1], row[2]) for row in rows]) <= Fraction(9, 10):
            return Tasks(*rows)


def locked_tasks(luck):
    """Return tasks with long sections and with deadlines that leave little time for delays."""
    rows = []
    work = 0
    for name in ("d", "c", "b", "a")[:luck.randint(2, 4)]:
        longest = luck.randint(4, 9)
        work += longest
        cuts = sorted(luck.sample(range(longest), 4))
        sections = [(cuts[at], cuts[at + 1], luck.choice(["x", "y"])) for at in (0, 2)]
        rows.insert(0, make_task(name, longest, 100, *sections, deadline=work + luck.choice([0, 1, 2, 3, 9])))
    return Tasks(*rows)


def full_plan(luck, tasks, end):
    """Return a plan in which the tasks release nearly as much as they can, most of it of longest runs."""
    jobs = []
    for name, longest, gap, _, _, _ in tasks.tasks:
        tick = luck.choice([0, 0, 1, 2, luck.randint(0, 20)])
        while tick < end:
            jobs.append((tick, name, longest if luck.random() < 0.8 else luck.randint(1, longest)))
            tick += gap + luck.choice([0, 0, 0, 0, 1, luck.randint(0, 30)])
    return plan_of(tasks, tuple(jobs))


def ceiling(tasks, lock):
    """Return the greatest urgency of a task that has a section with this lock."""
    return max([urgency for urgency, task in enumerate(tasks.tasks) if lock in [row[2] for row in task[5]]])


def held_off(levels, name):
    """Return all numbers of 0.13 for the delay of a task, each with the less urgent task and the lock."""
    tasks = levels.tasks
    urgency = tasks.names.index(name)
    rows = []
    for lower in tasks.names[:urgency]:
        if levels[lower] >= urgency:
            rows.append((tasks[lower][1] - 1, lower, None))
        for begin, end, lock in tasks[lower][5]:
            if ceiling(tasks, lock) >= urgency:
                rows.append((end - begin - 1, lower, lock))
    return rows


def delay_told(levels, name):
    """Return the delay of a task."""
    return max([0] + [row[0] for row in held_off(levels, name)])


def above(tasks, name):
    """Return the more urgent tasks with their urgencies."""
    urgency = tasks.names.index(name)
    return [(other, task[1], task[2]) for other, task in enumerate(tasks.tasks) if other > urgency]


def released_before(works, tick):
    """Return how long all runs that is released at 0, gap, 2 * gap and so on, before a tick."""
    return sum([(tick + gap - 1) // gap * longest for _, longest, gap in works if tick > 0])


def round_told(tasks, name, held):
    """Return the round, by asking one tick after the other."""
    _, longest, gap, _, _, _ = tasks[name]
    works = above(tasks, name) + [(0, longest, gap)]
    tick = 1
    while tick != held + released_before(works, tick):
        tick += 1
    return tick


def start_told(tasks, name, number, held):
    """Return the start, by asking one tick after the other."""
    works = above(tasks, name)
    tick = 0
    while tick != held + number * tasks[name][1] + released_before(works, tick + 1):
        tick += 1
    return tick


def end_told(tasks, name, number, level, held):
    """Return the end, by asking one tick after the other."""
    near = [row for row in above(tasks, name) if row[0] <= level]
    far = [row for row in above(tasks, name) if row[0] > level]
    begin = start_told(tasks, name, number, held)
    base = held + (number + 1) * tasks[name][1] + released_before(near, begin + 1)
    tick = 0
    while tick != base + released_before(far, tick):
        tick += 1
    return tick


def table_told(tasks, name, level, held):
    """Return the table of least numbers for a level and a delay."""
    length = round_told(tasks, name, held)
    numbers = range(len(range(0, length, tasks[name][2])))
    return length, tuple([(start_told(tasks, name, k, held), end_told(tasks, name, k, level, held)) for k in numbers])


def is_table_told(levels, name, value):
    """Return whether a tuple of numbers is a table, as 0.16 tells it."""
    tasks = levels.tasks
    _, longest, gap, _, _, _ = tasks[name]
    held = delay_told(levels, name)
    works = above(tasks, name)
    near = [row for row in works if row[0] <= levels[name]]
    far = [row for row in works if row[0] > levels[name]]
    length, pairs = value
    if length < 1 or length < held + released_before(works + [(0, longest, gap)], length):
        return False
    if len(pairs) != (length + gap - 1) // gap:
        return False
    for k, (start, end) in enumerate(pairs):
        if start < 0 or start < held + k * longest + released_before(works, start + 1):
            return False
        if end < 0 or end < held + (k + 1) * longest + released_before(near, start + 1) + released_before(far, end):
            return False
    return True


def shown_told(tasks, name, table):
    """Return what a table shows."""
    return max([end - k * tasks[name][2] for k, (_, end) in enumerate(table[1])])


def worst_told(levels, name):
    """Return the worst answer of a task."""
    table = table_told(levels.tasks, name, levels[name], delay_told(levels, name))
    return shown_told(levels.tasks, name, table)


def plan_told(levels, name):
    """Return the plan of 10.2."""
    tasks = levels.tasks
    held = delay_told(levels, name)
    jobs, tick = [], 0
    if held > 0:
        _, lower, lock = [row for row in held_off(levels, name) if row[0] == held][-1]
        jobs.append((0, lower, tasks[lower][1]))
        tick = 1
        if lock is not None:
            tick = [row[0] for row in tasks[lower][5] if row[2] == lock and row[1] - row[0] - 1 == held][-1] + 1
    length = round_told(tasks, name, held)
    for other in (name,) + tasks.above(name):
        _, longest, gap, _, _, _ = tasks[other]
        jobs.extend([(tick + at, other, longest) for at in range(0, length, gap)])
    return plan_of(tasks, tuple(jobs))
