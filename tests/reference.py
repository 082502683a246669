"""A slow second way to find what a run does, told as in 0.12, and random values to compare it with."""

from holdlevels.runs.plans import plan_of
from holdlevels.tasks.levels import Levels
from holdlevels.tasks.tasks import make_task
from holdlevels.tasks.tasksets import Tasks


def hold(levels, name, ran):
    """Return the hold of a started job that has run so many ticks."""
    tasks = levels.tasks
    found = levels[name]
    for begin, end, lock in tasks[name][5]:
        if begin < ran < end:
            found = max(found, max([tasks.urgency(task[0]) for task in tasks.tasks if lock in [row[2] for row in task[5]]]))
    return found


def played(levels, plan):
    """Return the log, the stacks of indices, the starts and the ends of the run."""
    tasks = levels.tasks
    ran = [0] * len(plan)
    starts, ends = [None] * len(plan), [None] * len(plan)
    order, log, stacks = [], [], []
    tick = 0
    while None in ends:
        stack = [index for index in order if ends[index] is None]
        waiting = [index for index, job in enumerate(plan) if job[0] <= tick and starts[index] is None]
        if waiting:
            best = max(waiting, key=lambda index: (tasks.urgency(plan[index][1]), -plan[index][0]))
            urgency = tasks.urgency(plan[best][1])
            if not stack or urgency > hold(levels, plan[stack[-1]][1], ran[stack[-1]]):
                starts[best] = tick
                order.append(best)
                stack.append(best)
        stacks.append(tuple(stack))
        log.append(plan[stack[-1]][1] if stack else None)
        tick += 1
        if stack:
            ran[stack[-1]] += 1
            if ran[stack[-1]] == plan[stack[-1]][2]:
                ends[stack[-1]] = tick
    return tuple(log), tuple(stacks), tuple(starts), tuple(ends)


def some_tasks(luck):
    """Return tasks with a load of at most 9/10."""
    rows = []
    for name in ("a", "b", "c", "d")[:luck.randint(1, 4)]:
        longest = luck.randint(1, 8)
        cuts = sorted(luck.sample(range(longest), luck.choice([0, 0, 2, 4]) if longest >= 4 else 0))
        sections = [(cuts[at], cuts[at + 1], luck.choice(["x", "y"])) for at in range(0, len(cuts), 2)]
        rows.append(make_task(name, longest, luck.randint(5 * longest, 8 * longest), *sections, deadline=luck.randint(1, 30),
                              room=luck.randint(0, 5)))
    return Tasks(*rows)


def some_levels(luck, tasks):
    """Return any levels of the tasks."""
    return Levels(tasks, *[luck.randint(urgency, len(tasks) - 1) for urgency in range(len(tasks))])


def some_plan(luck, tasks):
    """Return any plan of the tasks."""
    jobs = []
    for name, longest, gap, _, _, _ in tasks.tasks:
        tick = luck.randint(0, 10)
        for _ in range(luck.randint(0, 5)):
            jobs.append((tick, name, luck.randint(1, longest)))
            tick += gap + luck.choice([0, 0, 1, 5, 30])
    return plan_of(tasks, tuple(jobs))
