"""0.11, 0.12, 5.1 and stage 5: a machine."""

import random
import unittest

from holdlevels.errors import InvalidLevels, InvalidNumber, InvalidPlan, NothingToUndo, TooMany, UnknownName
from holdlevels.runs.machine import MAX_NOW, Machine
from holdlevels.tasks.levels import Levels
from holdlevels.tasks.tasks import make_task
from holdlevels.tasks.tasksets import Tasks
from tests.reference import played, some_levels, some_tasks
from tests.samples import BEST, CAR, NONE, NOT_NUMBERS, OWN, PLAIN, TEN, cannot_be_iterated, fails, others


class Stop(Exception):
    """An error that an action raises."""


def shown(machine):
    """Return all that a machine shows."""
    return (
        machine.levels, machine.now, machine.plan, machine.log, machine.stack, machine.waiting, machine.hold, machine.room,
        machine.steps, str(machine),
    )


def example():
    """Return the machine of the document's example, behind its second line."""
    machine = Machine(BEST)
    machine.release("log")
    machine.tick()
    machine.release("steer")
    machine.release("plan", length=2)
    list(machine.walk(3))
    machine.release("brake")
    for _ in range(3):
        machine.tick()
    return machine


class MachineTest(unittest.TestCase):
    def test_example(self):
        machine = Machine(BEST)
        found = [machine.release("log"), machine.tick(), machine.release("steer"), machine.release("plan", length=2)]
        self.assertEqual(found + [machine.waiting, machine.hold], [1, "log", 3, 4, (("steer", 1), ("plan", 1)), 0])
        found = [list(machine.walk(3)), machine.stack, machine.release("brake"), machine.tick(), machine.stack, machine.room]
        self.assertEqual(found, [["steer", "steer", "steer"], ("log",), 8, "brake", ("log", "brake"), 6])
        self.assertEqual([machine.tick(), machine.tick()], ["brake", "plan"])
        self.assertEqual([machine.back(many=2), str(machine)], [9, "machine at tick 5, 2 started, 1 waiting"])
        self.assertEqual(machine.attempt(lambda same: list(same.walk(4))), ["brake", "plan", "plan", "log"])
        self.assertEqual([machine.now, machine.plan[1:]], [5, ((1, "plan", 2), (1, "steer", 3), (4, "brake", 2))])
        self.assertEqual(MAX_NOW, 40000)

    def test_a_new_machine(self):
        for levels in (BEST, Levels(NONE)):
            machine = Machine(levels)
            self.assertEqual(
                shown(machine), (levels, 0, (), (), (), (), None, 0, 0, "machine at tick 0, 0 started, 0 waiting")
            )
            self.assertEqual([machine.tick(), list(machine.walk(2)), machine.log], [None, [None, None], (None, None, None)])

    def test_levels(self):
        for value in others(Levels) + [CAR, (0, 3, 3, 3)]:
            fails(self, InvalidLevels, Machine, value)

    def test_as_told_tick_by_tick(self):
        luck = random.Random(5)
        for _ in range(100):
            tasks = some_tasks(luck)
            levels = some_levels(luck, tasks)
            machine = Machine(levels)
            steps = 0
            free = {name: 0 for name in tasks.names}
            for tick in range(60):
                for name in luck.sample(tasks.names, len(tasks)):
                    if free[name] <= tick and luck.random() < 0.3:
                        steps += 1
                        self.assertEqual(machine.release(name, length=luck.randint(1, tasks[name][1])), steps)
                        free[name] = tick + tasks[name][2]
                self.assertEqual((machine.now, machine.steps), (tick, steps))
                before = machine.waiting
                entry = machine.tick()
                steps += 1
                log, stacks, starts, ends = played(levels, machine.plan)
                self.assertEqual(machine.log, (log + (None,) * 60)[:tick + 1])
                self.assertEqual(entry, machine.log[-1])
                self.assert_state(machine, before, stacks, starts, ends)

    def assert_state(self, machine, before, stacks, starts, ends):
        now, plan, tasks = machine.now, machine.plan, machine.levels.tasks
        stack = stacks[now - 1] if now <= len(stacks) else ()
        names = tuple([plan[index][1] for index in stack if ends[index] > now])
        self.assertEqual(machine.stack, names)
        self.assertEqual(machine.room, sum([tasks[name][4] for name in names]))
        rows = [(-tasks.urgency(job[1]), job[0], job[1]) for job, start in zip(plan, starts) if start >= now]
        self.assertEqual(machine.waiting, tuple([(name, tick) for _, tick, name in sorted(rows)]))
        self.assertIn(before, (machine.waiting, before[:1] + machine.waiting))

    def test_hold(self):
        tasks = Tasks(make_task("low", 6, 60, (1, 4, "k")), make_task("mid", 1, 60), make_task("top", 2, 60, (0, 1, "k")))
        machine = Machine(Levels.least(tasks))
        self.assertIs(machine.hold, None)
        machine.release("low")
        self.assertIs(machine.hold, None)
        holds = []
        for _ in range(6):
            machine.tick()
            holds.append(machine.hold)
        self.assertEqual(holds, [0, 2, 2, 0, 0, None])
        machine = Machine(Levels(tasks, 1, 1, 2))
        machine.release("low")
        machine.tick()
        self.assertEqual(machine.hold, 1)
        machine.release("mid")
        machine.release("top")
        self.assertEqual([machine.tick(), machine.stack, machine.hold], ["top", ("low", "top"), 2])

    def test_a_release_waits_until_the_tick_runs(self):
        machine = Machine(BEST)
        machine.release("log")
        self.assertEqual((machine.stack, machine.waiting, machine.plan, machine.log), ((), (("log", 0),), ((0, "log", 6),), ()))
        machine.tick()
        self.assertEqual((machine.stack, machine.waiting, machine.room), (("log",), (), 5))

    def test_jobs_of_one_task_wait_in_order(self):
        tasks = Tasks(make_task("a", 1, 2), make_task("b", 20, 100))
        machine = Machine(Levels.greatest(tasks))
        machine.release("b")
        for _ in range(3):
            machine.tick()
            machine.tick()
            machine.release("a")
        self.assertEqual(machine.waiting, (("a", 2), ("a", 4), ("a", 6)))
        list(machine.walk(15))
        self.assertEqual(machine.waiting, (("a", 4), ("a", 6)))

    def test_plan_is_ascending(self):
        machine = Machine(BEST)
        for name in ("steer", "log", "plan", "brake"):
            machine.release(name)
        self.assertEqual(machine.plan, ((0, "brake", 2), (0, "log", 6), (0, "plan", 4), (0, "steer", 3)))
        self.assertEqual(machine.waiting, (("brake", 0), ("steer", 0), ("plan", 0), ("log", 0)))


class ReleaseTest(unittest.TestCase):
    def test_lengths(self):
        machine = Machine(BEST)
        machine.release("log", length=None)
        machine.release("plan", length=1)
        machine.release("steer", length=3)
        self.assertEqual(machine.plan, ((0, "log", 6), (0, "plan", 1), (0, "steer", 3)))

    def test_errors_in_order(self):
        machine = example()
        before = shown(machine)
        for value in PLAIN + OWN:
            fails(self, UnknownName, machine.release, value, length=0, keeps=("name", value))
        for value in NOT_NUMBERS[1:] + [0, -1, 3, 10 ** 39]:
            fails(self, InvalidNumber, machine.release, "brake", length=value, keeps=("value", value))
        fails(self, InvalidPlan, machine.release, "brake")
        fails(self, InvalidPlan, machine.release, "log", length=1)
        self.assertEqual(shown(machine), before)

    def test_just_a_gap_apart(self):
        machine = Machine(BEST)
        machine.release("brake")
        fails(self, InvalidPlan, machine.release, "brake", length=1)
        list(machine.walk(9))
        fails(self, InvalidPlan, machine.release, "brake")
        machine.tick()
        self.assertEqual(machine.release("brake"), 12)
        machine.back()
        self.assertEqual(machine.release("brake", length=1), 12)
        self.assertEqual(machine.plan, ((0, "brake", 2), (10, "brake", 1)))

    def test_the_last_tick_of_a_plan(self):
        machine = Machine(BEST)
        list(machine.walk(20000))
        machine.release("log")
        machine.tick()
        for name in ("plan", "steer", "brake"):
            fails(self, InvalidPlan, machine.release, name)
        self.assertEqual(machine.plan, ((20000, "log", 6),))


class WalkTest(unittest.TestCase):
    def test_each_tick_runs_when_it_is_asked_for(self):
        machine = Machine(BEST)
        machine.release("log")
        walk = machine.walk(4)
        self.assertIs(iter(walk), walk)
        self.assertEqual(machine.now, 0)
        self.assertEqual([next(walk), machine.now], ["log", 1])
        machine.release("brake")
        self.assertEqual([next(walk), next(walk), machine.tick(), next(walk), machine.now], ["brake", "brake", "log", "log", 5])
        self.assertEqual(list(walk), [])
        self.assertEqual(list(machine.walk(0)), [])
        self.assertEqual(machine.now, 5)

    def test_errors_come_with_the_first_result(self):
        machine = example()
        before = shown(machine)
        for value in NOT_NUMBERS + [-1, -10 ** 39]:
            walk = machine.walk(value)
            fails(self, InvalidNumber, next, walk, keeps=("value", value))
        self.assertEqual(shown(machine), before)

    def test_at_most_40000_ticks(self):
        machine = Machine(Levels.greatest(TEN))
        for tick in range(39999):
            if tick <= 20000 and tick % 20 == 0:
                for name in TEN.names:
                    machine.release(name)
            machine.tick()
        self.assertEqual((machine.now, machine.steps, len(machine.plan)), (39999, 39999 + 10010, 10010))
        walk = machine.walk(10 ** 39)
        self.assertIs(next(walk), None)
        fails(self, TooMany, next, walk, keeps=("limit", 40000))
        self.assertEqual(machine.now, 40000)
        before = shown(machine)
        fails(self, TooMany, machine.tick, keeps=("limit", 40000))
        walk = machine.walk(1)
        fails(self, TooMany, next, walk, keeps=("limit", 40000))
        walk = machine.walk(-1)
        fails(self, InvalidNumber, next, walk, keeps=("value", -1))
        self.assertEqual(list(machine.walk(0)), [])
        self.assertEqual(shown(machine), before)
        self.assertEqual(machine.twin(), machine)
        self.assertEqual(machine.back(many=2), 39998 + 10010)
        self.assertEqual(list(machine.walk(2)), [None, None])
        self.assertEqual(machine.back(many=machine.steps), 0)
        self.assertEqual(shown(machine), shown(Machine(Levels.greatest(TEN))))


class BackTest(unittest.TestCase):
    def test_one_after_the_other(self):
        machine = Machine(BEST)
        shots = [shown(machine)]
        for action in (
            lambda: machine.release("log"), machine.tick, lambda: machine.release("brake", length=1),
            lambda: machine.release("plan"), machine.tick, machine.tick, lambda: machine.release("steer"), machine.tick,
        ):
            action()
            shots.append(shown(machine))
        for many in range(9):
            other = machine.twin()
            self.assertEqual(other.back(many=many), 8 - many)
            self.assertEqual(shown(other), shots[8 - many])
        for steps in range(7, -1, -1):
            self.assertEqual(machine.back(), steps)
            self.assertEqual(shown(machine), shots[steps])
        self.assertEqual(machine.back(many=0), 0)

    def test_errors_in_order(self):
        machine = example()
        before = shown(machine)
        for value in NOT_NUMBERS + [-1, -10 ** 39]:
            fails(self, InvalidNumber, machine.back, many=value, keeps=("value", value))
        for value in (12, 13, 10 ** 39):
            fails(self, NothingToUndo, machine.back, many=value, keeps=("many", value))
        self.assertEqual(shown(machine), before)
        fails(self, NothingToUndo, Machine(BEST).back, keeps=("many", 1))
        self.assertEqual(machine.back(many=11), 0)

    def test_a_step_is_made_again(self):
        machine = example()
        before = shown(machine)
        machine.back(many=3)
        self.assertEqual(list(machine.walk(3)), ["brake", "brake", "plan"])
        self.assertEqual(shown(machine), before)


class TrialTest(unittest.TestCase):
    def test_all_is_as_before(self):
        machine = example()
        before = shown(machine)
        with machine.trial() as same:
            self.assertIs(same, machine)
            list(machine.walk(7))
            machine.release("brake")
            self.assertNotEqual(shown(machine), before)
        self.assertEqual(shown(machine), before)
        with machine.trial():
            machine.back(many=machine.steps)
            machine.release("steer")
        self.assertEqual(shown(machine), before)
        self.assertEqual(machine.back(), before[8] - 1)

    def test_also_by_an_error(self):
        machine = example()
        before = shown(machine)
        with self.assertRaises(Stop):
            with machine.trial():
                machine.tick()
                raise Stop()
        self.assertEqual(shown(machine), before)
        with self.assertRaises(UnknownName):
            with machine.trial() as same:
                same.tick()
                same.release("wash")
        self.assertEqual(shown(machine), before)

    def test_nested(self):
        machine = example()
        before = shown(machine)
        with machine.trial():
            machine.tick()
            inner = shown(machine)
            with machine.trial() as same:
                same.back(many=5)
                self.assertEqual(same.attempt(lambda box: box.attempt(lambda again: again.tick())), "plan")
            self.assertEqual(shown(machine), inner)
            with self.assertRaises(Stop):
                with machine.trial():
                    machine.tick()
                    raise Stop()
            self.assertEqual(shown(machine), inner)
        self.assertEqual(shown(machine), before)

    def test_one_trial_in_several_blocks(self):
        machine = example()
        before = shown(machine)
        trial = machine.trial()
        machine.tick()
        later = shown(machine)
        with trial:
            machine.tick()
            inner = shown(machine)
            with trial:
                machine.back(many=4)
            self.assertEqual(shown(machine), inner)
        self.assertEqual(shown(machine), later)
        machine.back()
        with trial:
            machine.tick()
        self.assertEqual(shown(machine), before)

    def test_attempt(self):
        machine = example()
        before = shown(machine)
        self.assertIs(machine.attempt(lambda same: same), machine)
        self.assertEqual(machine.attempt(lambda same: (same.tick(), same.now)), ("plan", 8))
        self.assertEqual(shown(machine), before)

        def fail(same):
            same.tick()
            raise Stop()

        with self.assertRaises(Stop):
            machine.attempt(fail)
        self.assertEqual(shown(machine), before)
        with self.assertRaises(InvalidNumber):
            machine.attempt(lambda same: list(same.walk(-1)))
        self.assertEqual(machine.attempt(lambda same: same.twin()), machine)

    def test_twin(self):
        machine = example()
        before = shown(machine)
        twin = machine.twin()
        self.assertEqual(shown(twin), before)
        twin.tick()
        self.assertEqual(shown(machine), before)
        machine.back(many=3)
        self.assertEqual(twin.now, machine.now + 4)
        self.assertEqual(twin.back(many=twin.steps), 0)
        self.assertEqual(shown(twin), shown(Machine(BEST)))


class ComparingTest(unittest.TestCase):
    def test_equal(self):
        machine = example()
        self.assertTrue(machine == example())
        self.assertFalse(machine != example())
        other = example()
        other.tick()
        self.assertTrue(machine != other)
        other.back()
        self.assertTrue(machine == other)
        other.back()
        self.assertTrue(machine != other)

    def test_order_of_releases_does_not_matter_but_what_is_released_does(self):
        one, two, three = Machine(BEST), Machine(BEST), Machine(BEST)
        one.release("log")
        one.release("brake")
        two.release("brake")
        two.release("log")
        three.release("log")
        self.assertTrue(one == two)
        self.assertTrue(one != three)
        self.assertTrue(Machine(BEST) == Machine(Levels(Tasks.of(CAR.tasks), 0, 3, 3, 3)))
        self.assertTrue(Machine(BEST) != Machine(BEST.with_level("log", 1)))

    def test_ticks_without_jobs_count(self):
        one, two = Machine(BEST), Machine(BEST)
        two.tick()
        self.assertTrue(one != two)

    def test_other_values(self):
        machine = example()
        for value in others(Machine) + [Machine(BEST), machine.plan, machine.log]:
            self.assertIs(machine == value, False)
            self.assertIs(value != machine, True)

    def test_not_iterated_and_not_assigned(self):
        machine = example()
        cannot_be_iterated(self, machine)
        for name in ("levels", "now", "plan", "log", "stack", "waiting", "hold", "room", "steps"):
            with self.assertRaises(AttributeError):
                setattr(machine, name, ())


if __name__ == "__main__":
    unittest.main()
