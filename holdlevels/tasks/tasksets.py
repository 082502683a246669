"""Tasks that share a processor, from the least urgent to the most urgent one."""

from math import gcd

from holdlevels.checks import check_between
from holdlevels.errors import InvalidOperation, InvalidTasks, Overload, TooMany, UnknownName
from holdlevels.tasks.tasks import GAP, LONGEST, NAME, SECTIONS
from holdlevels.tasks.tasks import changed_task_by, check_task, is_task


def _share(tasks):
    """Return the sum of longest / gap as a pair without a common divisor."""
    upper, lower = 0, 1
    for task in tasks:
        upper = upper * task[GAP] + task[LONGEST] * lower
        lower = lower * task[GAP]
    common = gcd(upper, lower)
    return upper // common, lower // common


def _ceilings(tasks):
    """Return a dict from all locks to the greatest urgency of a task that has it."""
    found = {}
    for urgency, task in enumerate(tasks):
        for _, _, lock in task[SECTIONS]:
            found[lock] = urgency
    return {lock: found[lock] for lock in sorted(found)}


def _check_rows(tasks):
    """Raise InvalidTasks if these are not tasks with different names."""
    if not all([is_task(task) for task in tasks]):
        raise InvalidTasks("one of these is not a task")
    if len({task[NAME] for task in tasks}) < len(tasks):
        raise InvalidTasks("two tasks have one name")


class Tasks:
    """Zero to ten tasks with different names; they never change."""

    MAX_TASKS = 10

    def __init__(self, *tasks):
        _check_rows(tasks)
        if len(tasks) > Tasks.MAX_TASKS:
            raise TooMany(Tasks.MAX_TASKS)
        upper, lower = _share(tasks)
        if 10 * upper > 9 * lower:
            raise Overload((upper, lower))
        self._tasks = tasks
        self._names = tuple([task[NAME] for task in tasks])
        self._urgencies = {name: urgency for urgency, name in enumerate(self._names)}
        self._load = (upper, lower)
        self._locks = _ceilings(tasks)

    @classmethod
    def of(cls, tasks):
        """Return the tasks of a tuple."""
        if not isinstance(tasks, tuple):
            raise InvalidTasks("this is not a tuple of tasks")
        return cls(*tasks)

    @property
    def tasks(self):
        """The tuple of the tasks."""
        return self._tasks

    @property
    def names(self):
        """The tuple of the names."""
        return self._names

    @property
    def load(self):
        """The load as a pair of integers."""
        return self._load

    @property
    def locks(self):
        """A dict from all locks to their ceilings."""
        return dict(self._locks)

    def urgency(self, name):
        """Return the urgency of a task."""
        if name not in self:
            raise UnknownName(name)
        return self._urgencies[name]

    def above(self, name):
        """Return the names of the tasks that are more urgent."""
        urgency = self.urgency(name)
        return self._names[urgency + 1:]

    def with_task(self, task, *, urgency=None):
        """Return the tasks with one more, which has this urgency."""
        check_task(task)
        if urgency is None:
            urgency = len(self._tasks)
        check_between(urgency, 0, len(self._tasks))
        rows = self._tasks[:urgency] + (task,) + self._tasks[urgency:]
        return Tasks(*rows)

    def replaced(self, task):
        """Return the tasks with this one in the place of the one with its name."""
        check_task(task)
        urgency = self.urgency(task[NAME])
        rows = self._tasks[:urgency] + (task,) + self._tasks[urgency + 1:]
        return Tasks(*rows)

    def _check_names(self, names):
        """Raise UnknownName for the first name that no task has."""
        for name in names:
            if name not in self:
                raise UnknownName(name)

    def without(self, *names):
        """Return the tasks without these."""
        self._check_names(names)
        rows = [task for task in self._tasks if task[NAME] not in names]
        return Tasks(*rows)

    def only(self, *names):
        """Return the tasks without all others."""
        self._check_names(names)
        rows = [task for task in self._tasks if task[NAME] in names]
        return Tasks(*rows)

    def moved(self, name, urgency):
        """Return the tasks with another urgency of this one."""
        task = self[name]
        check_between(urgency, 0, len(self._tasks) - 1)
        rows = [row for row in self._tasks if row[NAME] != name]
        rows.insert(urgency, task)
        return Tasks(*rows)

    def changed(self, name, **numbers):
        """Return the tasks with other numbers of this one."""
        return self.changed_by(name, numbers)

    def changed_by(self, name, numbers):
        """Return the tasks with the other numbers of this one that a dict tells."""
        task = changed_task_by(self[name], numbers)
        return self.replaced(task)

    def renamed(self, **names):
        """Return the tasks with new names."""
        return self.renamed_by(names)

    def renamed_by(self, names):
        """Return the tasks with the new names that a dict from the old ones tells."""
        if not isinstance(names, dict) or not all([isinstance(key, str) for key in names]):
            raise InvalidOperation("this is not a dict of names")
        self._check_names(sorted(names))
        rows = [(names.get(task[NAME], task[NAME]),) + task[1:] for task in self._tasks]
        return Tasks(*rows)

    def __add__(self, other):
        if not isinstance(other, Tasks):
            raise InvalidOperation("only tasks can be added to tasks")
        if any([name in other for name in self._names]):
            raise InvalidOperation("both have a task with one name")
        rows = self._tasks + other._tasks
        return Tasks(*rows)

    def __contains__(self, value):
        return isinstance(value, str) and value in self._urgencies

    def __getitem__(self, name):
        return self._tasks[self.urgency(name)]

    def __iter__(self):
        raise TypeError("tasks cannot be iterated")

    def __len__(self):
        return len(self._tasks)

    def __eq__(self, other):
        return isinstance(other, Tasks) and self._tasks == other._tasks

    def __str__(self):
        return f"{len(self._tasks)} tasks, load {self._load[0]}/{self._load[1]}"


def check_tasks(tasks):
    """Raise InvalidTasks if the value is not a Tasks."""
    if not isinstance(tasks, Tasks):
        raise InvalidTasks("this is not a Tasks")
