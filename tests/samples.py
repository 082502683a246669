"""Values that the tests have in common."""

import sys

from holdlevels.runs.machine import Machine
from holdlevels.runs.runs import Run
from holdlevels.tasks.levels import Levels
from holdlevels.tasks.tasks import make_task
from holdlevels.tasks.tasksets import Tasks

CAR = Tasks(
    make_task("log", 6, 40, room=5),
    make_task("plan", 4, 20, (1, 3, "map"), deadline=16, room=4),
    make_task("steer", 3, 12, (0, 2, "map"), deadline=11, room=2),
    make_task("brake", 2, 10, deadline=5),
)
BEST = Levels(CAR, 0, 3, 3, 3)
NONE = Tasks()
TEN = Tasks(*[make_task(name, 1, 20) for name in ("a", "b", "c", "d", "e", "f", "g", "h", "i", "j")])

_deep = ("a",)
for _ in range(9):
    _deep = [_deep]

# Values of other kinds, none of them a task, tasks, levels, a plan of CAR with jobs, a run, a machine or a name in use.
PLAIN = [
    None, True, False, 0, 1, -1, 3, 10 ** 40 - 1, 1 - 10 ** 40, "", "a", "Log", "log ", "l0", "a" * 9, "\n",
    [], [1], ["log"], ("log",), (0,), (None,), ((),), (0, "log"), (0, "log", True), {}, {"log": 1}, {1: 2}, {None: ()},
    {("a", 1): [1]}, [[[]]], ((((1,),),),), _deep, ("log", 6, 40, 40), [0, "log", 6],
]
OWN = [CAR, NONE, BEST, Machine(BEST), Run(BEST, ()), Levels(NONE)]
NOT_NUMBERS = [None, True, False, "0", "", (), (0,), [0], {}, CAR, BEST]

# A plan of CAR, and values that are none.
THREE = ((0, "log", 6), (3, "brake", 1), (3, "steer", 3))
NOT_PLANS = [value for value in PLAIN + OWN if value != ()] + [
    list(THREE), THREE[::-1], (THREE[0], THREE[0]), (list(THREE[0]),), THREE[0], (THREE,), THREE + (None,),
    ((-1, "log", 6),), ((20001, "log", 6),), ((True, "log", 6),), ((None, "log", 6),), (("0", "log", 6),),
    ((0, "map", 6),), ((0, None, 6),), ((0, ["log"], 6),), ((0, 1, 6),), ((0, "log", 0),), ((0, "log", 7),),
    ((0, "log", True),), ((0, "log", None),), ((0, "log", "6"),), ((0, "log"),), ((0, "log", 6, 1),),
    ((0, "brake", 2), (9, "brake", 2)), ((0, "brake", 1), (0, "brake", 2)), ((0, "log", 1), (0, "brake", 1)),
    ((0, "brake", 2), (5, "log", 6), (9, "brake", 2)),
]


def calls_of(action):
    """Return how many calls of functions of the program and the tests an action makes.

    This tells how much slower Python code goes than the clock does, but is the same each time.
    """
    found = []

    def note(frame, event, _):
        if event == "call":
            found.append(frame.f_code.co_name)

    sys.setprofile(note)
    try:
        action()
    finally:
        sys.setprofile(None)
    return len(found)


def others(*kinds):
    """Return all sample values that are not of these kinds; True and False are not integers."""
    values = []
    for value in PLAIN + OWN:
        if isinstance(value, bool) and bool not in kinds:
            values.append(value)
        elif not isinstance(value, kinds):
            values.append(value)
    return values


def fails(case, error, call, *args, keeps=None, **more):
    """Check that the call raises an error of just this class, and return it.

    The first item of keeps is the attribute, the second one its value, which is of the same kind.
    """
    try:
        found = call(*args, **more)
    except Exception as raised:
        case.assertIs(raised.__class__, error, (args, more, raised))
        if keeps is not None:
            kept = getattr(raised, keeps[0])
            case.assertEqual(kept, keeps[1])
            case.assertIs(type(kept), type(keeps[1]))
        return raised
    case.fail(f"{error.__name__} was not raised for {args!r} {more!r}, but {found!r} returned")


def cannot_be_iterated(case, value):
    """Check that the object cannot be iterated."""
    for way in (iter, list, tuple, sorted, enumerate, lambda it: [*it], lambda it: [x for x in it]):
        with case.assertRaises(TypeError):
            way(value)
    with case.assertRaises(TypeError):
        first, second = value
