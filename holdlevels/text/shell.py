"""A shell: a desk and a machine that are told what to do by lines."""

from holdlevels.answers.worst import worst_answer
from holdlevels.errors import InvalidCommand, InvalidOperation, TooMany
from holdlevels.live.desk import Desk
from holdlevels.margins.margins import margin
from holdlevels.room.threads import threads
from holdlevels.runs.machine import MAX_NOW, Machine
from holdlevels.runs.runs import Run
from holdlevels.text.commands import command_of
from holdlevels.text.formats import format_levels, format_tasks


def _or_none(text):
    """Return a text, or the word for an empty one."""
    if text == "":
        return "none"
    return text


def _edit(desk, word, values):
    """Make an edit of the desk as one step."""
    if word == "put":
        values = values[::-1]
    desk.do((word, *values))


def _undo(desk, _, values):
    """Undo steps."""
    desk.undo(many=values[0])


def _redo(desk, _, values):
    """Do undone steps again."""
    desk.redo(many=values[0])


CHANGES = {"put": _edit, "set": _edit, "drop": _edit, "move": _edit, "undo": _undo, "redo": _redo}


def _tasks_told(desk):
    """Tell the tasks."""
    return _or_none(format_tasks(desk.tasks))


def _levels_told(desk):
    """Tell the levels."""
    return _or_none(format_levels(desk.levels))


def _room_told(desk):
    """Tell the most room."""
    return str(desk.room)


def _threads_told(desk):
    """Tell threads with the fewest groups."""
    return _or_none(" / ".join([" ".join(group) for group in threads(desk.levels)]))


def _worst_told(desk, name):
    """Tell the worst answer of a task."""
    return str(worst_answer(desk.levels, name))


def _may_told(desk, name, other):
    """Tell whether the first task may interrupt the other one."""
    if desk.levels.may_interrupt(name, other):
        return "yes"
    return "no"


def _margin_told(desk, name, number):
    """Tell the margin of a number of a task."""
    value = margin(desk.tasks, name, number)
    if value is None:
        return "none"
    return str(value)


QUESTIONS = {
    "tasks": _tasks_told,
    "levels": _levels_told,
    "room": _room_told,
    "threads": _threads_told,
    "worst": _worst_told,
    "may": _may_told,
    "margin": _margin_told,
}


def _release(machine, name, length=None):
    """Release a job."""
    machine.release(name, length=length)
    return "ok"


def _tick(machine, many):
    """Run so many ticks, and tell what runs."""
    # Otherwise the ticks ahead of the error would run.
    if machine.now + many > MAX_NOW:
        raise TooMany(MAX_NOW)
    return _or_none(" ".join(["-" if entry is None else entry for entry in machine.walk(many)]))


def _back(machine, many):
    """Take back steps, and tell how many there are."""
    return str(machine.back(many=many))


def _stack_told(machine):
    """Tell the stack."""
    return _or_none(" ".join(machine.stack))


def _answers_told(machine):
    """Tell the answers of all jobs of the run."""
    answers = Run(machine.levels, machine.plan).answers
    return _or_none(" ".join([str(ticks) for ticks in answers]))


WORKS = {"release": _release, "tick": _tick, "back": _back, "stack": _stack_told, "answers": _answers_told}


class Shell:
    """Lines are commands to a desk and to a machine with its levels."""

    def __init__(self, desk=None):
        if desk is None:
            desk = Desk()
        if not isinstance(desk, Desk):
            raise InvalidOperation("this is not a Desk")
        self._desk = desk
        self._machine = None
        self._lines = ()

    @property
    def log(self):
        """The lines that changed the desk, or undid a change or did it again."""
        return self._lines

    @property
    def levels(self):
        """The levels of the desk."""
        return self._desk.levels

    def desk(self):
        """Return a twin of the desk."""
        return self._desk.twin()

    def run(self, line):
        """Do a command, and return its answer."""
        word, values = command_of(line)
        if word in CHANGES:
            return self._change(line, word, values)
        if word in QUESTIONS:
            question = QUESTIONS[word]
            return question(self._desk, *values)
        if word == "start":
            self._machine = Machine(self._desk.levels)
            return "ok"
        return self._work(word, values)

    def _change(self, line, word, values):
        """Change the desk, and return its news."""
        action = CHANGES[word]
        action(self._desk, word, values)
        self._machine = None
        self._lines = (*self._lines, line)
        parts = [" ".join(row) for row in self._desk.news()]
        if not parts:
            return "ok"
        return ", ".join(parts)

    def _work(self, word, values):
        """Let the machine do something, and return what it tells."""
        if self._machine is None:
            raise InvalidOperation("there is no machine")
        action = WORKS[word]
        return action(self._machine, *values)

    def run_all(self, lines):
        """Yield the answers to the lines of a tuple, each of which is done when it is asked for."""
        if not isinstance(lines, tuple):
            raise InvalidCommand("this is not a tuple of lines")
        for line in lines:
            yield self.run(line)

    def __len__(self):
        return len(self._lines)

    def __str__(self):
        if self._machine is None:
            return f"shell of {len(self._desk)} tasks, no machine"
        return f"shell of {len(self._desk)} tasks, machine at tick {self._machine.now}"
