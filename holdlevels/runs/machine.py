"""A machine that runs jobs tick by tick."""

from holdlevels.checks import check_between, check_not_negative
from holdlevels.errors import InvalidPlan, NothingToUndo, TooMany
from holdlevels.runs.plans import MAX_TICK
from holdlevels.runs.ticks import begun, hold_of, hold_table, run_on, with_waiting
from holdlevels.tasks.levels import check_levels
from holdlevels.tasks.tasks import GAP, LONGEST, ROOM
from holdlevels.trials import Trial

MAX_NOW = 40000


class Moment:
    """What a machine is behind one of its steps; it never changes.

    It is linked to the moment before it, so that steps are taken back without copies. Ticks at which
    no job waits or is started have no moments, as there can be many: idle is how many of them ran
    since the moment before, spare how many can still run behind this one.
    """

    def __init__(self, before, idle, job, entry):
        self.before = before
        self.idle = idle
        self.job = job
        self.entry = entry
        self.spare = 0
        if before is None:
            self.done = 0
            self.at = 0
            self.pile = ()
            self.queue = ()
            self.free = ()
        else:
            self.done = before.done + idle + 1
            self.at = before.at + idle
            self.pile = before.pile
            self.queue = before.queue
            self.free = before.free


def _first_moment(many):
    """Return the moment at tick 0, at which each task may release a job."""
    moment = Moment(None, 0, None, None)
    moment.free = (0,) * many
    moment.spare = MAX_NOW
    return moment


def _moments(moment):
    """Return the moments behind all steps, the first one first."""
    found = []
    while moment.before is not None:
        found.append(moment)
        moment = moment.before
    return found[::-1]


class Machine:
    """Runs jobs under levels, while further ones are released."""

    def __init__(self, levels):
        check_levels(levels)
        self._levels = levels
        self._names = levels.tasks.names
        self._holds = hold_table(levels)
        # The last moment, and how many ticks without any job have run since then.
        self._state = (_first_moment(len(levels)), 0)

    @property
    def levels(self):
        """The levels under which the jobs run."""
        return self._levels

    @property
    def now(self):
        """The present tick, which has not run yet."""
        moment, idle = self._state
        return moment.at + idle

    @property
    def plan(self):
        """The plan of the jobs released so far."""
        jobs = [moment.job for moment in _moments(self._state[0]) if moment.job is not None]
        return tuple(sorted(jobs))

    @property
    def log(self):
        """For each tick so far the name of the job that ran, or None."""
        last, idle = self._state
        entries = []
        for moment in _moments(last):
            if moment.idle > 0:
                entries.extend([None] * moment.idle)
            if moment.job is None:
                entries.append(moment.entry)
        entries.extend([None] * idle)
        return tuple(entries)

    @property
    def stack(self):
        """The names of the started jobs, from the lowest one on."""
        return tuple([self._names[job[0]] for job in self._state[0].pile])

    @property
    def waiting(self):
        """The names and release ticks of the waiting jobs, in the order in which they are next."""
        return tuple([(self._names[job[0]], job[1]) for job in self._state[0].queue])

    @property
    def hold(self):
        """The hold of the top, or None."""
        pile = self._state[0].pile
        if not pile:
            return None
        return hold_of(self._holds, pile)

    @property
    def room(self):
        """The room of all started jobs."""
        tasks = self._levels.tasks.tasks
        return sum([tasks[job[0]][ROOM] for job in self._state[0].pile])

    @property
    def steps(self):
        """How many steps the machine has made."""
        moment, idle = self._state
        return moment.done + idle

    def release(self, name, *, length=None):
        """Release a job at the present tick, and return the number of steps."""
        tasks = self._levels.tasks
        task = tasks[name]
        if length is None:
            length = task[LONGEST]
        check_between(length, 1, task[LONGEST])
        urgency = tasks.urgency(name)
        last, idle = self._state
        now = last.at + idle
        free = last.free
        if now > MAX_TICK or now < free[urgency]:
            raise InvalidPlan("the task may not release a job at this tick")
        moment = Moment(last, idle, (now, name, length), None)
        moment.queue = with_waiting(moment.queue, (urgency, now, length, 0))
        moment.free = free[:urgency] + (now + task[GAP],) + free[urgency + 1:]
        self._state = (moment, 0)
        return moment.done

    def tick(self):
        """Run the present tick, and return its entry of the log."""
        last, idle = self._state
        if idle < last.spare:
            self._state = (last, idle + 1)
            return None
        if last.at + idle == MAX_NOW:
            raise TooMany(MAX_NOW)
        started, waiting = begun(self._holds, last.pile, last.queue)
        moment = Moment(last, 0, None, self._names[started[-1][0]])
        moment.at = last.at + 1
        moment.pile = run_on(started)
        moment.queue = waiting
        if not moment.pile and not waiting:
            moment.spare = MAX_NOW - moment.at
        self._state = (moment, 0)
        return moment.entry

    def walk(self, many):
        """Run so many ticks, each one when its entry is asked for."""
        check_not_negative(many)
        for _ in range(many):
            last, idle = self._state
            # As in tick: most ticks of a long walk run nothing, and a call for each takes its time.
            if idle < last.spare:
                self._state = (last, idle + 1)
                yield None
            else:
                yield self.tick()

    def back(self, *, many=1):
        """Take back the last steps, and return the number of those that stay."""
        check_not_negative(many)
        if many > self.steps:
            raise NothingToUndo(many)
        moment, idle = self._state
        while many > idle:
            many = many - idle - 1
            moment, idle = moment.before, moment.idle
        self._state = (moment, idle - many)
        return self.steps

    def trial(self):
        """Return a block at whose end the machine is as at its beginning."""
        return Trial(self)

    def attempt(self, action):
        """Return what the action returns for the machine, which is then as before."""
        with self.trial() as same:
            return action(same)

    def twin(self):
        """Return an independent machine with the same steps."""
        other = Machine(self._levels)
        other._state = self._state
        return other

    def __eq__(self, other):
        if not isinstance(other, Machine) or self._levels != other._levels:
            return False
        return self.plan == other.plan and self.log == other.log

    def __str__(self):
        return f"machine at tick {self.now}, {len(self.stack)} started, {len(self.waiting)} waiting"
