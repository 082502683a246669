"""How one tick of a run goes on: what a machine and a run have in common.

A job is here a tuple (urgency, mark, length, ran), where the mark is what its owner knows it by.
Started jobs stand from the lowest one on, waiting ones in the order in which they are next.
"""

from holdlevels.tasks.tasks import LONGEST, SECTIONS


def _task_holds(task, level, ceilings):
    """Return the holds of a job of the task, by the ticks that it has run."""
    holds = [level] * task[LONGEST]
    for begin, end, lock in task[SECTIONS]:
        for ran in range(begin + 1, end):
            holds[ran] = max(level, ceilings[lock])
    return tuple(holds)


def hold_table(levels):
    """Return the holds of the jobs of all tasks, by their urgencies."""
    tasks = levels.tasks
    ceilings = tasks.locks
    return tuple([_task_holds(task, level, ceilings) for task, level in zip(tasks.tasks, levels.numbers)])


def hold_of(holds, started):
    """Return the hold of the top."""
    urgency, _, _, ran = started[-1]
    return holds[urgency][ran]


def with_waiting(waiting, job):
    """Return the waiting jobs with one more, which is released last."""
    place = len([other for other in waiting if other[0] >= job[0]])
    return waiting[:place] + (job,) + waiting[place:]


def begun(holds, started, waiting):
    """Return the started and the waiting jobs behind the start at a tick, if there is one."""
    if waiting and (not started or waiting[0][0] > hold_of(holds, started)):
        return started + waiting[:1], waiting[1:]
    return started, waiting


def run_on(started):
    """Return the started jobs behind a tick that the top runs."""
    if not started:
        return started
    urgency, mark, length, ran = started[-1]
    if ran + 1 == length:
        return started[:-1]
    return started[:-1] + ((urgency, mark, length, ran + 1),)
