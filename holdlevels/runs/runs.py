"""Runs of plans under levels."""

from holdlevels.checks import check_between
from holdlevels.errors import InvalidOperation
from holdlevels.runs.plans import check_plan
from holdlevels.runs.ticks import begun, hold_table, run_on, with_waiting
from holdlevels.tasks.levels import check_levels
from holdlevels.tasks.tasks import DEADLINE, ROOM


def _stacks_of(levels, plan):
    """Return for each tick of the run the indices of the started jobs, from the lowest one on."""
    tasks = levels.tasks
    holds = hold_table(levels)
    stacks = []
    started, waiting = (), ()
    coming = 0
    while coming < len(plan) or started or waiting:
        while coming < len(plan) and plan[coming][0] == len(stacks):
            _, name, length = plan[coming]
            waiting = with_waiting(waiting, (tasks.urgency(name), coming, length, 0))
            coming += 1
        started, waiting = begun(holds, started, waiting)
        stacks.append(tuple([job[1] for job in started]))
        started = run_on(started)
    return tuple(stacks)


def _times(plan, stacks):
    """Return the ticks at which the jobs start, and those at which they have ended."""
    starts = [None] * len(plan)
    ends = [None] * len(plan)
    for tick, stack in enumerate(stacks):
        if stack:
            top = stack[-1]
            if starts[top] is None:
                starts[top] = tick
            ends[top] = tick + 1
    return tuple(starts), tuple(ends)


class Run:
    """The run of a plan under levels; it never changes."""

    def __init__(self, levels, plan):
        check_levels(levels)
        check_plan(levels.tasks, plan)
        self._levels = levels
        self._plan = plan
        self._stacks = _stacks_of(levels, plan)
        self._log = tuple([plan[stack[-1]][1] if stack else None for stack in self._stacks])
        self._starts, self._ends = _times(plan, self._stacks)

    @property
    def levels(self):
        """The levels of the run."""
        return self._levels

    @property
    def plan(self):
        """The plan of the run."""
        return self._plan

    @property
    def log(self):
        """For each tick the name of the job that runs, or None."""
        return self._log

    @property
    def starts(self):
        """For each job the tick at which it starts."""
        return self._starts

    @property
    def ends(self):
        """For each job the tick at which it has ended."""
        return self._ends

    @property
    def answers(self):
        """For each job the ticks from its release to its end."""
        return tuple([end - job[0] for end, job in zip(self._ends, self._plan)])

    @property
    def late(self):
        """The indices of the late jobs."""
        tasks = self._levels.tasks
        deadlines = [tasks[name][DEADLINE] for _, name, _ in self._plan]
        slack = [deadline - answer for answer, deadline in zip(self.answers, deadlines)]
        return tuple([index for index, ticks in enumerate(slack) if ticks < 0])

    @property
    def peak(self):
        """The greatest room of a stack, and the first tick with it."""
        tasks = self._levels.tasks
        needs = [tasks[name][ROOM] for _, name, _ in self._plan]
        rooms = [sum([needs[index] for index in stack]) for stack in self._stacks]
        most = max([0, *rooms])
        if most == 0:
            return 0, 0
        return most, rooms.index(most)

    def started_at(self, tick):
        """Return the indices of the jobs of the stack at a tick."""
        check_between(tick, 0, len(self._log) - 1)
        return self._stacks[tick]

    def stack_at(self, tick):
        """Return the stack at a tick."""
        return tuple([self._plan[index][1] for index in self.started_at(tick)])

    def interruptions(self):
        """Yield each tick at which a job starts above another one, with the indices of both."""
        for tick, stack in enumerate(self._stacks):
            if len(stack) > 1 and self._starts[stack[-1]] == tick:
                yield (tick, stack[-1], stack[-2])

    def __getitem__(self, tick):
        check_between(tick, 0, len(self._log) - 1)
        return self._log[tick]

    def __iter__(self):
        raise TypeError("a run cannot be iterated")

    def __len__(self):
        return len(self._log)

    def __eq__(self, other):
        return isinstance(other, Run) and self._levels == other._levels and self._plan == other._plan

    def __str__(self):
        return f"run of {len(self._plan)} jobs, {len(self._log)} ticks, {len(self.late)} late"


def check_run(run):
    """Raise InvalidOperation if the value is not a Run."""
    if not isinstance(run, Run):
        raise InvalidOperation("this is not a Run")


def is_log(levels, plan, value):
    """Return whether the value is the log of the run of a plan under levels."""
    return value == Run(levels, plan).log
