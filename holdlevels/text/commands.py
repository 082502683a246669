"""Commands of a shell: the words of their lines, and what these stand for."""

from holdlevels.errors import InvalidCommand
from holdlevels.margins.margins import WORDS
from holdlevels.text.formats import parse_task
from holdlevels.text.forms import are_digits

MOST_DIGITS = 5
# For each first word all ways to go on.
SHAPES = {
    "put": (("whole", "task"),),
    "set": (("task",),),
    "drop": (("word",),),
    "move": (("word", "whole"),),
    "undo": (("whole",),),
    "redo": (("whole",),),
    "tasks": ((),),
    "levels": ((),),
    "room": ((),),
    "threads": ((),),
    "worst": (("word",),),
    "may": (("word", "word"),),
    "margin": (("word", "number"),),
    "start": ((),),
    "release": (("word",), ("word", "whole")),
    "tick": (("whole",),),
    "back": (("whole",),),
    "stack": ((),),
    "answers": ((),),
}


def _is_of_kind(word, kind):
    """Return whether a word can stand where a kind is asked for; of a task it is the first one."""
    if kind == "whole":
        return are_digits(word, MOST_DIGITS) and str(int(word)) == word
    if kind == "number":
        return word in WORDS
    if kind == "task":
        return word != ""
    return word.split() == [word]


def _have_shape(words, kinds):
    """Return whether words go on as a shape asks for, up to its task."""
    if len(words) < len(kinds) or (len(words) > len(kinds) and kinds[-1:] != ("task",)):
        return False
    return all([_is_of_kind(word, kind) for word, kind in zip(words, kinds)])


def _value(words, place, kind):
    """Return what stands at a place of the words behind the first one."""
    if kind == "whole":
        return int(words[place])
    if kind == "task":
        return parse_task(" ".join(words[place:]))
    return words[place]


def command_of(line):
    """Return the first word of a command and the tuple of the values behind it."""
    if not isinstance(line, str):
        raise InvalidCommand("this is not a line")
    first, *words = line.split(" ")
    for kinds in SHAPES.get(first, ()):
        if _have_shape(words, kinds):
            return first, tuple([_value(words, place, kind) for place, kind in enumerate(kinds)])
    raise InvalidCommand("this line is not a command")
