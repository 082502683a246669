"""0.11, 0.12, 6.1 to 6.3 and stage 6: runs."""

import random
import unittest
from itertools import product

from holdlevels.errors import InvalidLevels, InvalidNumber, InvalidPlan
from holdlevels.runs.machine import Machine
from holdlevels.runs.plans import dense_plan, jobs_of
from holdlevels.runs.runs import Run, is_log
from holdlevels.tasks.levels import Levels
from holdlevels.tasks.tasks import make_task
from holdlevels.tasks.tasksets import Tasks
from tests.reference import hold, played, some_levels, some_plan, some_tasks
from tests.samples import BEST, CAR, NONE, NOT_PLANS, OWN, PLAIN, TEN, cannot_be_iterated, fails, others

PAST = ((0, "log", 6), (1, "plan", 4), (2, "steer", 3), (3, "brake", 2))


def samples(many):
    luck = random.Random(6)
    for _ in range(many):
        tasks = some_tasks(luck)
        yield some_levels(luck, tasks), some_plan(luck, tasks)


class RunTest(unittest.TestCase):
    def test_examples(self):
        run = Run(BEST, PAST)
        found = [run.starts, run.answers, run.late, run.peak, run[7], run.stack_at(5), list(run.interruptions()), str(run)]
        right = [
            (0, 1, 7, 5), (15, 4, 8, 4), (), (9, 1), "steer", ("log", "brake"), [(1, 1, 0), (5, 3, 0), (7, 2, 0)],
            "run of 4 jobs, 15 ticks, 0 late",
        ]
        self.assertEqual(found, right)
        self.assertEqual(Run(Levels(CAR, 3, 3, 3, 3), ((0, "log", 6), (1, "brake", 2))).late, (1,))
        self.assertEqual(Run(BEST, ()).log, ())
        self.assertIs(is_log(BEST, ((1, "brake", 2),), (None, "brake", "brake")), True)

    def test_the_whole_example(self):
        run = Run(BEST, PAST)
        log = ("log",) + ("plan",) * 4 + ("brake",) * 2 + ("steer",) * 3 + ("log",) * 5
        self.assertEqual((run.levels, run.plan, run.log, run.ends), (BEST, PAST, log, (15, 5, 10, 7)))
        self.assertEqual([run.started_at(tick) for tick in (0, 4, 5, 9, 10)], [(0,), (0, 1), (0, 3), (0, 2), (0,)])
        self.assertEqual(tuple([run[tick] for tick in range(15)]), log)
        self.assertEqual(len(run), 15)

    def test_as_told_tick_by_tick(self):
        for levels, plan in samples(400):
            tasks = levels.tasks
            run = Run(levels, plan)
            log, stacks, starts, ends = played(levels, plan)
            self.assertEqual((run.log, run.starts, run.ends), (log, starts, ends), (tasks.tasks, levels.numbers, plan))
            self.assertEqual(tuple([run.started_at(tick) for tick in range(len(run))]), stacks)
            names = [tuple([plan[index][1] for index in stack]) for stack in stacks]
            self.assertEqual([run.stack_at(tick) for tick in range(len(run))], names)
            answers = tuple([end - job[0] for end, job in zip(ends, plan)])
            self.assertEqual(run.answers, answers)
            late = tuple([index for index, job in enumerate(plan) if answers[index] > tasks[job[1]][3]])
            self.assertEqual(run.late, late)
            rooms = [sum([tasks[name][4] for name in stack]) for stack in names]
            most = max([0] + rooms)
            self.assertEqual(run.peak, (most, rooms.index(most)) if most else (0, 0))
            self.assertEqual(str(run), f"run of {len(plan)} jobs, {len(log)} ticks, {len(late)} late")
            self.assertIs(is_log(levels, plan, log), True)
            rows = []
            for tick, stack in enumerate(stacks):
                rows += [(tick, stack[-1], stack[-2]) for index in stack[-1:] if starts[index] == tick and len(stack) > 1]
            self.assertEqual(list(run.interruptions()), rows)

    def test_some_job_runs_exactly_if_one_is_released_and_has_not_ended(self):
        for levels, plan in samples(100):
            run = Run(levels, plan)
            for tick in range(len(run)):
                there = any([job[0] <= tick < end for job, end in zip(plan, run.ends)])
                self.assertIs(run[tick] is not None, there)
            self.assertEqual([name is None for name in run.log], [name is None for name in Run(Levels.least(levels.tasks), plan).log])

    def test_holds_grow_in_a_stack(self):
        for levels, plan in samples(100):
            run = Run(levels, plan)
            ran = [0] * len(plan)
            for tick in range(len(run)):
                stack = run.started_at(tick)
                for low, high in zip(stack, stack[1:]):
                    self.assertLess(hold(levels, plan[low][1], ran[low]), levels.tasks.urgency(plan[high][1]))
                for index in stack[-1:]:
                    ran[index] += 1

    def test_jobs_of_one_task_in_the_order_of_their_releases(self):
        tasks = Tasks(make_task("low", 8, 10, deadline=50), make_task("top", 1, 20))
        run = Run(Levels(tasks, 0, 1), dense_plan(tasks, 41))
        for times in (run.starts, run.ends):
            row = [times[index] for index in jobs_of(tasks, run.plan, "low")]
            self.assertEqual(row, sorted(row))
        self.assertEqual(run.late, ())
        for tick in range(len(run)):
            self.assertLessEqual(run.stack_at(tick).count("low"), 1)

    def test_levels_hold_off(self):
        plan = ((0, "log", 6), (1, "brake", 2), (1, "steer", 3))
        starts = [Run(BEST.with_level("log", level), plan).starts for level in range(4)]
        self.assertEqual(starts, [(0, 1, 3), (0, 1, 3), (0, 1, 8), (0, 6, 8)])

    def test_sections_hold_off(self):
        tasks = Tasks(make_task("low", 6, 60, (1, 4, "k")), make_task("mid", 1, 60), make_task("top", 2, 60, (0, 1, "k")))
        levels = Levels.least(tasks)
        # Inside at 2 and 3 ticks; not yet at 1, no more at 4.
        for release, start in ((1, 1), (2, 4), (3, 4), (4, 4), (5, 5)):
            self.assertEqual(Run(levels, ((0, "low", 6), (release, "top", 1))).starts[1], start)
            self.assertEqual(Run(levels, ((0, "low", 6), (release, "mid", 1))).starts[1], start)

    def test_a_section_below_the_level_and_a_job_that_ends_inside(self):
        tasks = Tasks(make_task("low", 6, 60, (0, 5, "k")), make_task("mid", 9, 90), make_task("top", 2, 60))
        self.assertEqual(Run(Levels(tasks, 1, 1, 2), ((0, "low", 6), (1, "mid", 1), (1, "top", 1))).starts, (0, 7, 1))
        self.assertEqual(Run(Levels(tasks, 0, 1, 2), ((0, "low", 3), (1, "mid", 1))).ends, (4, 2))
        both = Tasks(make_task("low", 6, 60, (0, 5, "k")), make_task("top", 2, 60, (0, 1, "k")))
        self.assertEqual(Run(Levels(both, 0, 1), ((0, "low", 3), (1, "top", 1))).ends, (3, 4))

    def test_a_section_of_one_tick_never_holds_off(self):
        tasks = Tasks(make_task("low", 4, 60, (1, 2, "k"), (2, 3, "k")), make_task("top", 3, 60, (0, 2, "k")))
        for release in range(1, 4):
            self.assertEqual(Run(Levels(tasks, 0, 1), ((0, "low", 4), (release, "top", 1))).starts[1], release)
        # But it counts for the ceiling.
        tasks = Tasks(make_task("low", 4, 60, (0, 3, "k")), make_task("top", 2, 60, (0, 1, "k")))
        self.assertEqual(Run(Levels(tasks, 0, 1), ((0, "low", 4), (1, "top", 1))).starts[1], 3)

    def test_one_start_at_a_tick_and_the_first_of_a_task(self):
        tasks = Tasks(make_task("a", 2, 3, deadline=9))
        run = Run(Levels(tasks, 0), ((0, "a", 2), (3, "a", 2)))
        self.assertEqual(run.starts, (0, 3))
        self.assertEqual(run[2], None)
        self.assertEqual(run.stack_at(2), ())

    def test_late_is_more_than_the_deadline(self):
        tasks = Tasks(make_task("a", 5, 50, deadline=5), make_task("b", 1, 50))
        self.assertEqual(Run(Levels(tasks, 1, 1), ((0, "a", 5), (1, "b", 1))).late, ())
        self.assertEqual(Run(Levels(tasks, 0, 1), ((0, "a", 5), (1, "b", 1))).late, (0,))

    def test_peak(self):
        tasks = Tasks(make_task("a", 2, 50, room=0), make_task("b", 1, 50, room=0))
        self.assertEqual(Run(Levels(tasks, 0, 1), ((3, "a", 2), (4, "b", 1))).peak, (0, 0))
        tasks = tasks.changed("b", room=10 ** 6)
        self.assertEqual(Run(Levels(tasks, 0, 1), ((3, "a", 2), (4, "b", 1))).peak, (10 ** 6, 4))
        self.assertEqual(Run(BEST, ((3, "brake", 2), (20, "brake", 2))).peak, (1, 3))

    def test_empty_and_long_runs(self):
        for run in (Run(BEST, ()), Run(Levels(NONE), ())):
            found = (run.log, run.starts, run.ends, run.answers, run.late, run.peak, len(run), list(run.interruptions()))
            self.assertEqual(found, ((), (), (), (), (), (0, 0), 0, []))
            self.assertEqual(str(run), "run of 0 jobs, 0 ticks, 0 late")
            fails(self, InvalidNumber, run.stack_at, 0, keeps=("value", 0))
        run = Run(Levels.greatest(TEN), dense_plan(TEN, 20000) + ((20000, "a", 1),))
        self.assertEqual((len(run), len(run.plan), run.log[-1]), (20001, 10001, "a"))
        self.assertEqual(run.starts[:10], tuple(range(9, -1, -1)))


class RunReadingTest(unittest.TestCase):
    def test_levels_then_plan(self):
        for value in others(Levels):
            fails(self, InvalidLevels, Run, value, None)
            fails(self, InvalidLevels, is_log, value, None, ())
        for value in NOT_PLANS:
            fails(self, InvalidPlan, Run, BEST, value)
            fails(self, InvalidPlan, is_log, BEST, value, ())

    def test_wrong_ticks(self):
        run = Run(BEST, PAST)
        for value in (None, True, False, -1, 15, 10 ** 39, "0", (), [0], {}, CAR, run):
            for call in (run.stack_at, run.started_at, lambda tick: run[tick]):
                fails(self, InvalidNumber, call, value, keeps=("value", value))

    def test_interruptions_is_a_generator(self):
        found = Run(BEST, PAST).interruptions()
        self.assertIs(iter(found), found)
        self.assertEqual(next(found), (1, 1, 0))

    def test_logs(self):
        log = Run(BEST, PAST).log
        for value in PLAIN + OWN + [log[:-1], log + (None,), list(log), log[::-1], (log,), log[:-1] + (["log"],)]:
            self.assertIs(is_log(BEST, PAST, value), False, value)
        self.assertIs(is_log(BEST, (), ()), True)
        self.assertIs(is_log(BEST, (), []), False)
        self.assertIs(is_log(BEST, ((1, "brake", 1),), (False, "brake")), False)

    def test_equal(self):
        run = Run(BEST, PAST)
        self.assertTrue(run == Run(Levels(Tasks.of(CAR.tasks), 0, 3, 3, 3), PAST))
        self.assertFalse(run != Run(BEST, PAST))
        self.assertTrue(run != Run(BEST, PAST[:3]))
        self.assertTrue(run != Run(BEST.with_level("log", 1), PAST))
        for value in others(Run) + [Run(BEST, ()), PAST, run.log]:
            self.assertIs(run == value, False)
            self.assertIs(value != run, True)

    def test_not_iterated_and_not_assigned(self):
        run = Run(BEST, PAST)
        cannot_be_iterated(self, run)
        for name in ("levels", "plan", "log", "starts", "ends", "answers", "late", "peak"):
            with self.assertRaises(AttributeError):
                setattr(run, name, ())

    def test_a_machine_has_the_log_of_the_run(self):
        for levels, plan in samples(100):
            machine = Machine(levels)
            for tick, name, length in plan:
                list(machine.walk(tick - machine.now))
                machine.release(name, length=length)
            run = Run(levels, plan)
            list(machine.walk(len(run) - machine.now))
            self.assertEqual((machine.log, machine.plan), (run.log, plan))
            self.assertEqual((machine.stack, machine.waiting), ((), ()))
            list(machine.walk(2))
            self.assertEqual(machine.log, run.log + (None, None))

    def test_all_levels_of_the_example(self):
        for numbers in product(range(4), range(1, 4), range(2, 4), (3,)):
            levels = Levels(CAR, *numbers)
            run = Run(levels, dense_plan(CAR, 121))
            self.assertEqual((run.log, run.starts, run.ends), played(levels, run.plan)[0:1] + played(levels, run.plan)[2:])


if __name__ == "__main__":
    unittest.main()
