"""A desk at which tasks are admitted or refused, so that there are good levels at each moment."""

from holdlevels.checks import check_between, check_not_negative, is_between
from holdlevels.errors import InvalidEdit, NothingToUndo
from holdlevels.good.greatest import existing_levels
from holdlevels.margins.growth import interruption_pairs
from holdlevels.room.chains import most_room
from holdlevels.tasks.tasks import NAME, is_task
from holdlevels.tasks.tasksets import Tasks
from holdlevels.trials import Trial

MAX_KEPT = 1000


class Stand:
    """How things stand at a desk; it never changes.

    All levels are greatest ones: those before the last call, the present ones, those before the
    steps that can be undone, the oldest first, and those behind the undone steps, the last one first.
    """

    def __init__(self, before, levels, past, undone, most):
        self.before = before
        self.present = levels
        self.past = past
        self.undone = undone
        self.most = most


def _last(rows, many):
    """Return the last ones of a tuple, at most so many."""
    return rows[max(0, len(rows) - many):]


def _put(rows, task, urgency):
    """Return the tasks with one more, or None if this is not possible."""
    if not is_task(task) or task[NAME] in [row[NAME] for row in rows]:
        return None
    if not is_between(urgency, 0, len(rows)):
        return None
    return rows[:urgency] + (task,) + rows[urgency:]


def _drop(rows, name):
    """Return the tasks without one, or None if this is not possible."""
    if name not in [row[NAME] for row in rows]:
        return None
    return tuple([row for row in rows if row[NAME] != name])


def _set(rows, task):
    """Return the tasks with one in the place of another one, or None if this is not possible."""
    if not is_task(task) or task[NAME] not in [row[NAME] for row in rows]:
        return None
    return tuple([task if row[NAME] == task[NAME] else row for row in rows])


def _move(rows, name, urgency):
    """Return the tasks with another urgency of one, or None if this is not possible."""
    others = _drop(rows, name)
    if others is None or not is_between(urgency, 0, len(others)):
        return None
    task = [row for row in rows if row[NAME] == name][0]
    return others[:urgency] + (task,) + others[urgency:]


EDITS = {"put": _put, "drop": _drop, "set": _set, "move": _move}
SIZES = {"put": 3, "drop": 2, "set": 2, "move": 3}


def _edited(rows, edit):
    """Return the tasks behind an edit, or raise InvalidEdit."""
    changed = None
    if isinstance(edit, tuple) and edit and isinstance(edit[0], str):
        word, *parts = edit
        if len(edit) == SIZES.get(word, 0):
            maker = EDITS[word]
            changed = maker(rows, *parts)
    if changed is None:
        raise InvalidEdit("this is no edit, or it is not possible")
    return changed


class Desk:
    """Tasks with their greatest levels, and with steps that can be undone."""

    def __init__(self, *, kept=100):
        check_between(kept, 0, MAX_KEPT)
        levels = existing_levels(Tasks())
        self._state = Stand(levels, levels, (), (), kept)

    @property
    def tasks(self):
        """The present tasks."""
        return self._state.present.tasks

    @property
    def levels(self):
        """The greatest levels of the present tasks."""
        return self._state.present

    @property
    def room(self):
        """The most room under the greatest levels."""
        return most_room(self._state.present)

    @property
    def steps(self):
        """How many steps can be undone."""
        return len(self._state.past)

    @property
    def kept(self):
        """How many steps can be undone at most."""
        return self._state.most

    @kept.setter
    def kept(self, many):
        """Let at most so many steps be undone."""
        self.keep(many)

    def keep(self, kept):
        """Let at most so many steps be undone."""
        check_between(kept, 0, MAX_KEPT)
        old = self._state
        self._state = Stand(old.before, old.present, _last(old.past, kept), old.undone, kept)

    def do(self, *edits):
        """Make edits as one step, and return how many steps can be undone."""
        return self.do_all(edits)

    def do_all(self, edits):
        """Make the edits of a tuple as one step, and return how many steps can be undone."""
        if not isinstance(edits, tuple):
            raise InvalidEdit("this is not a tuple of edits")
        rows = self.tasks.tasks
        for edit in edits:
            rows = _edited(rows, edit)
        if not edits:
            return self._stay()
        levels = existing_levels(Tasks(*rows))
        old = self._state
        past = _last(old.past + (old.present,), old.most)
        self._state = Stand(old.present, levels, past, (), old.most)
        return self.steps

    def _stay(self):
        """Let a call change nothing but the news, and return how many steps can be undone."""
        old = self._state
        self._state = Stand(old.present, old.present, old.past, old.undone, old.most)
        return self.steps

    def undo(self, *, many=1):
        """Undo the last steps, and return how many can be undone then."""
        check_not_negative(many)
        old = self._state
        if many > len(old.past):
            raise NothingToUndo(many)
        row = old.past + (old.present,)
        place = len(row) - 1 - many
        undone = old.undone + row[:place:-1]
        self._state = Stand(old.present, row[place], row[:place], undone, old.most)
        return self.steps

    def redo(self, *, many=1):
        """Do the last undone steps again, and return how many can be undone then."""
        check_not_negative(many)
        old = self._state
        if many > len(old.undone):
            raise NothingToUndo(many)
        place = len(old.undone) - many
        row = old.past + (old.present,) + old.undone[place:][::-1]
        past = _last(row[:-1], old.most)
        self._state = Stand(old.present, row[-1], past, old.undone[:place], old.most)
        return self.steps

    def news(self):
        """Yield what may interrupt what since the last call that returned, and what no longer may."""
        before, behind = self._state.before, self._state.present
        pairs = {"gone": interruption_pairs(before), "new": interruption_pairs(behind)}
        for word, other in (("gone", "new"), ("new", "gone")):
            for name, lower in pairs[word]:
                both = [one for one in (name, lower) if one in before.tasks and one in behind.tasks]
                if len(both) == 2 and (name, lower) not in pairs[other]:
                    yield (word, name, lower)

    def trial(self):
        """Return a block at whose end the desk is as at its beginning."""
        return Trial(self)

    def attempt(self, action):
        """Return what the action returns for the desk, which is then as before."""
        with self.trial() as same:
            return action(same)

    def twin(self):
        """Return an independent desk in the same state."""
        other = Desk()
        other._state = self._state
        return other

    def __getitem__(self, name):
        return self.tasks[name]

    def __iter__(self):
        raise TypeError("a desk cannot be iterated")

    def __contains__(self, value):
        return value in self.tasks

    def __len__(self):
        return len(self.tasks)

    def __eq__(self, other):
        return isinstance(other, Desk) and self.tasks == other.tasks

    def __str__(self):
        return f"desk of {len(self.tasks)} tasks, {self.steps} steps"
