"""5.1 and stage 5: a machine behind many ticks."""

import unittest

from holdlevels.errors import InvalidPlan, NothingToUndo, TooMany
from holdlevels.runs.machine import Machine
from holdlevels.runs.runs import Run
from holdlevels.tasks.levels import Levels
from holdlevels.tasks.tasks import make_task
from holdlevels.tasks.tasksets import Tasks
from tests.reference import played
from tests.samples import BEST, calls_of, fails
from tests.test_machine import Stop, shown

NINE = Levels(Tasks(make_task("a", 9, 10)), 0)
TWO = Levels(Tasks(make_task("low", 6, 90, (1, 5, "x"), room=3), make_task("top", 2, 30, (0, 1, "x"), room=4)), 0, 1)
# What the long machines do: a word with a name and a length for a release, a number of ticks.
STEPS = (("low", 6), 2, ("top", 1), 19997, ("low", 2), 1, ("top", 2), 20000)


def made(levels, steps):
    """Return a machine behind these steps."""
    machine = Machine(levels)
    for step in steps:
        if isinstance(step, int):
            found = list(machine.walk(step))
            assert len(found) == step
        else:
            machine.release(step[0], length=step[1])
    return machine


def told(levels, steps):
    """Return what a machine shows behind these steps, by the slow way."""
    now, jobs, many = 0, [], 0
    for step in steps:
        if isinstance(step, int):
            now, many = now + step, many + step
        else:
            jobs, many = jobs + [(now, step[0], step[1])], many + 1
    plan = tuple(sorted(jobs))
    log, stacks, starts, ends = played(levels, plan)
    stack = [index for index in (stacks[now - 1] if 0 < now <= len(stacks) else ()) if ends[index] > now]
    tasks = levels.tasks
    rows = [(-tasks.urgency(job[1]), job[0], job[1]) for job, start in zip(plan, starts) if start >= now]
    waiting = tuple([(name, tick) for _, tick, name in sorted(rows)])
    hold = None
    if stack:
        ran = log[:now].count(plan[stack[-1]][1]) - sum([job[2] for job in plan[:stack[-1]] if job[1] == plan[stack[-1]][1]])
        inside = [1 for begin, end, _ in tasks[plan[stack[-1]][1]][5] if begin < ran < end]
        hold = 1 if inside else levels[plan[stack[-1]][1]]
    names = tuple([plan[index][1] for index in stack])
    room = sum([tasks[name][4] for name in names])
    text = f"machine at tick {now}, {len(names)} started, {len(waiting)} waiting"
    return levels, now, plan, (log + (None,) * 40000)[:now], names, waiting, hold, room, many, text


def cut(steps, many):
    """Return the first of the steps, so many of them, each tick counted."""
    found = []
    for step in steps:
        if many == 0:
            break
        found.append(min(step, many) if isinstance(step, int) else step)
        many -= found[-1] if isinstance(step, int) else 1
    return tuple(found)


class LongMachineTest(unittest.TestCase):
    def test_the_example(self):
        machine = Machine(NINE)
        self.assertEqual([len(list(machine.walk(20000))), machine.release("a"), machine.tick()], [20000, 20001, "a"])
        self.assertEqual(len(list(machine.walk(19998))), 19998)
        self.assertEqual(machine.log[20000:20010], ("a",) * 9 + (None,))
        self.assertEqual((machine.now, machine.steps, len(machine.log)), (39999, 40000, 39999))
        self.assertEqual([machine.tick(), machine.now], [None, 40000])
        fails(self, TooMany, machine.tick, keeps=("limit", 40000))

    def test_behind_20000_and_40000_ticks(self):
        for steps in (STEPS, STEPS[:4], STEPS[:5], STEPS[:6], STEPS[:7], (20000,), (40000,), (("top", 2), 40000), (19999, ("low", 6), 1, ("top", 2)),
                      (20000, ("low", 6), ("top", 2)), (20000, ("top", 2), ("low", 6), 3), (19999, ("low", 6), 1, ("top", 2), 2, 19998)):
            machine = made(TWO, steps)
            self.assertEqual(shown(machine), told(TWO, steps), steps)
            self.assertEqual(shown(machine.twin()), told(TWO, steps))

    def test_back_by_one_by_many_and_by_all(self):
        right = told(TWO, STEPS)
        total = right[8]
        for many in (0, 1, 2, 19990, 19995, 19999, 20000, 20001, 20002, 20003, 20004, 39990, 39994, 39998, 39999, 40000, 40001, total - 1, total):
            machine = made(TWO, STEPS)
            self.assertEqual(machine.back(many=many), total - many)
            before = cut(STEPS, total - many)
            self.assertEqual(shown(machine), told(TWO, before), many)
            # What is taken back can be made again, and something else as well.
            if many >= 3:
                list(machine.walk(3))
                self.assertEqual(shown(machine), told(TWO, before + (3,)), many)
        machine = made(TWO, STEPS)
        fails(self, NothingToUndo, machine.back, many=total + 1, keeps=("many", total + 1))
        self.assertEqual(shown(machine), right)

    def test_back_one_after_the_other(self):
        steps = (300, ("low", 6), 1, ("top", 2), 200)
        machine = made(TWO, steps)
        for many in range(502, -1, -1):
            self.assertEqual(machine.back(), many)
            if many % 50 == 0 or 295 < many < 320:
                self.assertEqual(shown(machine), told(TWO, cut(steps, many)), many)
        fails(self, NothingToUndo, machine.back, keeps=("many", 1))
        self.assertEqual(machine, Machine(TWO))

    def test_each_tick_of_a_long_walk_runs_when_it_is_asked_for(self):
        machine = made(TWO, (("low", 6), 19990))
        walk = machine.walk(10 ** 39)
        self.assertEqual([next(walk), machine.now, next(walk), machine.now], [None, 19991, None, 19992])
        machine.release("top")
        self.assertEqual([next(walk), next(walk), next(walk), machine.now, machine.steps], ["top", "top", None, 19995, 19997])
        machine.back(many=3)
        self.assertEqual([machine.now, machine.waiting, next(walk), machine.tick(), next(walk)], [19992, (("top", 19992),), "top", "top", None])
        self.assertEqual(len([next(walk) for _ in range(20005)]), 20005)
        fails(self, TooMany, next, walk, keeps=("limit", 40000))
        self.assertEqual(shown(machine), told(TWO, (("low", 6), 19992, ("top", 2), 20008)))
        machine = made(TWO, (39995,))
        walk = machine.walk(9)
        self.assertEqual([next(walk) for _ in range(5)], [None] * 5)
        fails(self, TooMany, next, walk, keeps=("limit", 40000))

    def test_releases_at_the_last_ticks_of_a_plan(self):
        machine = made(TWO, (19999, ("top", 2), 1, ("low", 6)))
        self.assertEqual(machine.plan, ((19999, "top", 2), (20000, "low", 6)))
        list(machine.walk(1))
        fails(self, InvalidPlan, machine.release, "top")
        machine = made(TWO, (20001,))
        fails(self, InvalidPlan, machine.release, "low")
        self.assertEqual(shown(machine), told(TWO, (20001,)))
        machine = made(TWO, (("top", 2), 29))
        fails(self, InvalidPlan, machine.release, "top")
        self.assertEqual([machine.tick(), machine.release("top")], [None, 32])

    def test_trials(self):
        for steps in (STEPS, STEPS[:4], STEPS[:6], (40000,), (20000,)):
            machine = made(TWO, steps)
            before = told(TWO, steps)
            with machine.trial() as same:
                same.back(many=machine.steps)
                self.assertEqual(list(same.walk(5)), [None] * 5)
                self.assertEqual(shown(same), told(TWO, (5,)))
                with same.trial():
                    same.release("top")
                    list(same.walk(100))
                self.assertEqual(shown(same), told(TWO, (5,)))
            self.assertEqual(shown(machine), before)
            with self.assertRaises(Stop):
                with machine.trial():
                    machine.back(many=19000)
                    list(machine.walk(20))
                    raise Stop()
            self.assertEqual(shown(machine), before)
            found = machine.attempt(lambda box: (box.back(many=20000), shown(box)))
            self.assertEqual(found, (before[8] - 20000, told(TWO, cut(steps, before[8] - 20000))))
            self.assertEqual(shown(machine), before)

    def test_twins(self):
        machine = made(TWO, STEPS)
        twin = machine.twin()
        twin.back(many=10000)
        self.assertEqual(shown(machine), told(TWO, STEPS))
        machine.back(many=machine.steps)
        self.assertEqual(shown(twin), told(TWO, STEPS[:-1] + (10000,)))
        list(twin.walk(10000))
        self.assertEqual(shown(twin), told(TWO, STEPS))

    def test_equal(self):
        one, two = made(TWO, STEPS), made(TWO, STEPS)
        self.assertTrue(one == two)
        two.back()
        self.assertTrue(one != two)
        two.tick()
        self.assertTrue(one == two)
        self.assertTrue(made(TWO, (20000, ("top", 2), 19999)) != made(TWO, (20000, ("top", 2), 20000)))
        self.assertTrue(made(TWO, (20000, ("top", 2), 20000)) != made(TWO, (19999, ("top", 2), 20001)))
        self.assertTrue(made(TWO, (40000,)) == made(TWO, (20000, 20000)))

    def test_log_and_run(self):
        machine = made(TWO, STEPS)
        log = Run(TWO, machine.plan).log
        self.assertEqual(machine.log, log + (None,) * (40000 - len(log)))
        self.assertEqual(machine.log[19997:20005], (None, None, "low", "top", "top", "low", None, None))
        self.assertIsInstance(machine.log, tuple)

    def test_many_jobs(self):
        machine = Machine(NINE)
        for at in range(2000):
            machine.release("a", length=1 + at % 9)
            list(machine.walk(10))
        right = [entry for at in range(2000) for entry in ["a"] * (1 + at % 9) + [None] * (9 - at % 9)]
        self.assertEqual([machine.now, machine.steps, list(machine.log)], [20000, 22000, right])
        self.assertEqual(machine.back(many=11011), 10989)
        self.assertEqual([machine.now, list(machine.log), len(machine.plan)], [9990, right[:9990], 999])

    def test_few_calls(self):
        # To ask a generator for an entry is one call of it.
        machine = Machine(BEST)
        self.assertLess(calls_of(lambda: list(machine.walk(20000))), 20100)
        machine.release("log")
        self.assertLess(calls_of(lambda: (machine.log, machine.plan, machine.now, machine.steps, machine.twin())), 100)
        self.assertLess(calls_of(lambda: list(machine.walk(19999))), 20200)
        self.assertLess(calls_of(lambda: machine.back(many=machine.steps)), 20)


if __name__ == "__main__":
    unittest.main()
