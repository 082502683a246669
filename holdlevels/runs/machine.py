"""A machine that runs jobs tick by tick."""

from holdlevels.checks import check_between, check_not_negative
from holdlevels.errors import InvalidPlan, NothingToUndo, TooMany
from holdlevels.runs.plans import MAX_TICK
from holdlevels.runs.ticks import begun, hold_of, hold_table, run_on, with_waiting
from holdlevels.tasks.levels import check_levels
from holdlevels.tasks.tasks import GAP, LONGEST, ROOM
from holdlevels.trials import Trial

MAX_NOW = 40000


class Moment:
    """What a machine is behind one of its steps; it never changes.

    It is linked to the moment before it, so that steps are taken back without copies.
    """

    def __init__(self, before, job, entry):
        self.before = before
        self.job = job
        self.entry = entry
        self.done = 0
        self.at = 0
        self.pile = ()
        self.queue = ()
        self.free = ()
        if before is not None:
            self.done = before.done + 1
            self.at = before.at
            self.pile = before.pile
            self.queue = before.queue
            self.free = before.free


def _first_moment(many):
    """Return the moment at tick 0, at which each task may release a job."""
    moment = Moment(None, None, None)
    moment.free = (0,) * many
    return moment


def _moments(moment):
    """Return the moments behind all steps, the first one first."""
    found = []
    while moment.before is not None:
        found.append(moment)
        moment = moment.before
    return found[::-1]


class Machine:
    """Runs jobs under levels, while further ones are released."""

    def __init__(self, levels):
        check_levels(levels)
        self._levels = levels
        self._holds = hold_table(levels)
        self._state = _first_moment(len(levels))

    @property
    def levels(self):
        """The levels under which the jobs run."""
        return self._levels

    @property
    def now(self):
        """The present tick, which has not run yet."""
        return self._state.at

    @property
    def plan(self):
        """The plan of the jobs released so far."""
        jobs = [moment.job for moment in _moments(self._state) if moment.job is not None]
        return tuple(sorted(jobs))

    @property
    def log(self):
        """For each tick so far the name of the job that ran, or None."""
        return tuple([moment.entry for moment in _moments(self._state) if moment.job is None])

    @property
    def stack(self):
        """The names of the started jobs, from the lowest one on."""
        names = self._levels.tasks.names
        return tuple([names[job[0]] for job in self._state.pile])

    @property
    def waiting(self):
        """The names and release ticks of the waiting jobs, in the order in which they are next."""
        names = self._levels.tasks.names
        return tuple([(names[job[0]], job[1]) for job in self._state.queue])

    @property
    def hold(self):
        """The hold of the top, or None."""
        if not self._state.pile:
            return None
        return hold_of(self._holds, self._state.pile)

    @property
    def room(self):
        """The room of all started jobs."""
        tasks = self._levels.tasks.tasks
        return sum([tasks[job[0]][ROOM] for job in self._state.pile])

    @property
    def steps(self):
        """How many steps the machine has made."""
        return self._state.done

    def release(self, name, *, length=None):
        """Release a job at the present tick, and return the number of steps."""
        tasks = self._levels.tasks
        task = tasks[name]
        if length is None:
            length = task[LONGEST]
        check_between(length, 1, task[LONGEST])
        urgency = tasks.urgency(name)
        now = self._state.at
        free = self._state.free
        if now > MAX_TICK or now < free[urgency]:
            raise InvalidPlan("the task may not release a job at this tick")
        moment = Moment(self._state, (now, name, length), None)
        moment.queue = with_waiting(moment.queue, (urgency, now, length, 0))
        moment.free = free[:urgency] + (now + task[GAP],) + free[urgency + 1:]
        self._state = moment
        return moment.done

    def tick(self):
        """Run the present tick, and return its entry of the log."""
        state = self._state
        if state.at == MAX_NOW:
            raise TooMany(MAX_NOW)
        started, waiting = begun(self._holds, state.pile, state.queue)
        entry = None
        if started:
            entry = self._levels.tasks.names[started[-1][0]]
        moment = Moment(state, None, entry)
        moment.at = state.at + 1
        moment.pile = run_on(started)
        moment.queue = waiting
        self._state = moment
        return entry

    def walk(self, many):
        """Run so many ticks, each one when its entry is asked for."""
        check_not_negative(many)
        for _ in range(many):
            yield self.tick()

    def back(self, *, many=1):
        """Take back the last steps, and return the number of those that stay."""
        check_not_negative(many)
        if many > self._state.done:
            raise NothingToUndo(many)
        moment = self._state
        for _ in range(many):
            moment = moment.before
        self._state = moment
        return moment.done

    def trial(self):
        """Return a block at whose end the machine is as at its beginning."""
        return Trial(self)

    def attempt(self, action):
        """Return what the action returns for the machine, which is then as before."""
        with self.trial() as same:
            return action(same)

    def twin(self):
        """Return an independent machine with the same steps."""
        other = Machine(self._levels)
        other._state = self._state
        return other

    def __eq__(self, other):
        if not isinstance(other, Machine) or self._levels != other._levels:
            return False
        return self.plan == other.plan and self.log == other.log

    def __str__(self):
        return f"machine at tick {self.now}, {len(self._state.pile)} started, {len(self._state.queue)} waiting"
