"""What goes on before a job starts, and while jobs are inside their sections."""

from holdlevels.checks import check_between
from holdlevels.runs.runs import check_run
from holdlevels.tasks.tasks import SECTIONS, lock_inside


def _check_job(run, index):
    """Raise InvalidOperation if the run is none, InvalidNumber if the index is not that of a job."""
    check_run(run)
    check_between(index, 0, len(run.plan) - 1)


def _names_from(run, index):
    """Return the names of the task of a job and of all more urgent ones."""
    tasks = run.levels.tasks
    return tasks.names[tasks.urgency(run.plan[index][1]):]


def window(run, index):
    """Return the tick at which the window of a job begins."""
    _check_job(run, index)
    names = _names_from(run, index)
    begin = 0
    free = 0
    for job, end in zip(run.plan, run.ends):
        if job[0] > run.plan[index][0]:
            break
        if job[1] in names:
            # A window can only begin at a release, as the job itself is released in it.
            if job[0] >= free:
                begin = job[0]
            free = max(free, end)
    return begin


def delay_in(run, index):
    """Return the less urgent job that runs in the window of a job, and how long, or None."""
    begin = window(run, index)
    names = _names_from(run, index)
    tops = [run.started_at(tick)[-1] for tick in range(begin, run.starts[index])]
    lower = [top for top in tops if run.plan[top][1] not in names]
    if not lower:
        return None
    return lower[0], len(lower)


def _ticks_of_jobs(run):
    """Return for each job of the plan the list of the ticks at which it runs."""
    ticks = [[] for _ in run.plan]
    for tick, name in enumerate(run.log):
        if name is not None:
            ticks[run.started_at(tick)[-1]].append(tick)
    return ticks


def visits(run):
    """Yield all visits (lock, index, first, last) of the run, ascending."""
    check_run(run)
    tasks = run.levels.tasks
    found = []
    for index, ticks in enumerate(_ticks_of_jobs(run)):
        for begin, end, lock in tasks[run.plan[index][1]][SECTIONS]:
            felt = ticks[begin:end]
            if felt:
                found.append((lock, index, felt[0], felt[-1]))
    for visit in sorted(found):
        yield visit


def _ran_before(run, index, tick):
    """Return how many ticks a started job has run before a tick."""
    return len([past for past in range(run.starts[index], tick) if run.started_at(past)[-1] == index])


def inside_at(run, tick):
    """Return the pairs (index, lock) of the started jobs that are inside a section at a tick."""
    check_run(run)
    tasks = run.levels.tasks
    found = []
    for index in run.started_at(tick):
        lock = lock_inside(tasks[run.plan[index][1]], _ran_before(run, index, tick))
        if lock is not None:
            found.append((index, lock))
    return tuple(found)
