"""7.1 to 7.4 and stage 7: windows and locks."""

import random
import unittest

from holdlevels.errors import InvalidNumber, InvalidOperation
from holdlevels.runs.plans import dense_plan
from holdlevels.runs.runs import Run
from holdlevels.runs.windows import delay_in, inside_at, visits, window
from holdlevels.tasks.levels import Levels
from holdlevels.tasks.tasks import make_task
from holdlevels.tasks.tasksets import Tasks
from tests.reference import busy_tasks, ceiling, delay_told, full_plan, some_levels, some_plan, some_tasks
from tests.samples import BEST, CAR, NONE, fails, others

RUN = Run(BEST, ((0, "log", 6), (1, "plan", 4), (2, "steer", 3), (3, "brake", 2)))


def samples(many):
    luck = random.Random(7)
    for _ in range(many):
        tasks = some_tasks(luck)
        yield Run(some_levels(luck, tasks), some_plan(luck, tasks))
        tasks = busy_tasks(luck)
        yield Run(some_levels(luck, tasks), full_plan(luck, tasks, 60))


def urgency_of(run, index):
    return run.levels.tasks.names.index(run.plan[index][1])


def window_told(run, index):
    """Return the begin of a window by asking one tick after the other."""
    rows = [(job[0], end) for at, (job, end) in enumerate(zip(run.plan, run.ends))
            if urgency_of(run, at) >= urgency_of(run, index)]
    begins = [tick for tick in range(run.starts[index] + 1) if all([end <= tick for release, end in rows if release < tick])]
    return begins[-1]


def ticks_of(run, index):
    """Return the ticks at which a job runs."""
    return [tick for tick in range(len(run)) if run.started_at(tick)[-1:] == (index,)]


class WindowTest(unittest.TestCase):
    def test_examples(self):
        found = [window(RUN, 2), delay_in(RUN, 2), delay_in(RUN, 3), delay_in(RUN, 0), list(visits(RUN))]
        self.assertEqual(found, [2, (1, 3), (1, 2), None, [("map", 1, 2, 3), ("map", 2, 7, 8)]])
        self.assertEqual([inside_at(RUN, 2), inside_at(RUN, 3)], [(), ((1, "map"),)])

    def test_a_job_that_starts_at_its_release(self):
        self.assertEqual([window(RUN, 0), delay_in(RUN, 0)], [0, None])
        self.assertEqual([window(RUN, 1), RUN.starts[1], delay_in(RUN, 1)], [1, 1, None])
        alone = Run(BEST, ((7, "brake", 2), (30, "brake", 2)))
        self.assertEqual([window(alone, 0), window(alone, 1)], [7, 30])

    def test_a_window_that_begins_before_the_release(self):
        tasks = Tasks(make_task("low", 3, 20), make_task("top", 4, 20))
        run = Run(Levels.greatest(tasks), ((0, "top", 4), (2, "low", 3)))
        self.assertEqual([run.starts, window(run, 1), delay_in(run, 1)], [(0, 4), 0, None])
        # What has ended at a tick is over there.
        run = Run(Levels.greatest(tasks), ((0, "top", 4), (4, "low", 3)))
        self.assertEqual(window(run, 1), 4)
        # Jobs of the task itself count, too, and less urgent ones do not.
        tasks = Tasks(make_task("low", 3, 60), make_task("top", 4, 5))
        run = Run(Levels.greatest(tasks), ((0, "low", 3), (1, "top", 4), (6, "top", 4)))
        self.assertEqual([run.starts, window(run, 1), window(run, 2)], [(0, 3, 7), 1, 1])
        self.assertEqual([delay_in(run, 1), delay_in(run, 2)], [(0, 2), (0, 2)])

    def test_windows_as_told(self):
        seen = 0
        for run in samples(60):
            for index, job in enumerate(run.plan):
                begin = window(run, index)
                self.assertEqual(begin, window_told(run, index))
                self.assertLessEqual(begin, job[0])
                seen += begin < job[0]
        self.assertGreater(seen, 50)

    def test_in_a_window_at_most_one_less_urgent_job_runs_not_longer_than_the_delay(self):
        seen = 0
        for run in samples(60):
            names = run.levels.tasks.names
            delays = {name: delay_told(run.levels, name) for name in names}
            for index, job in enumerate(run.plan):
                ticks = range(window(run, index), run.starts[index])
                lower = [run.started_at(tick)[-1] for tick in ticks if names.index(run[tick]) < urgency_of(run, index)]
                self.assertEqual(delay_in(run, index), (lower[0], len(lower)) if lower else None)
                if lower:
                    seen += 1
                    self.assertEqual(lower, [lower[0]] * len(lower))
                    self.assertLessEqual(len(lower), delays[job[1]])
                    self.assertLess(run.starts[lower[0]], ticks[0])
                for tick in ticks:
                    there = [at for at, other in enumerate(run.plan) if other[0] <= tick < run.ends[at]]
                    self.assertTrue([at for at in there if urgency_of(run, at) >= urgency_of(run, index)])
        self.assertGreater(seen, 50)

    def test_the_longest_window(self):
        tasks = Tasks(make_task("low", 100, 1000), make_task("top", 4, 5))
        run = Run(Levels.greatest(tasks), ((0, "low", 100),) + tuple([(tick, "top", 4) for tick in range(1, 1000, 5)]))
        # Each job of top makes up for one tick of low.
        self.assertEqual(run.starts[:3] + run.starts[98:101], (0, 100, 104, 488, 492, 496))
        found = [(window(run, index), delay_in(run, index)) for index in (0, 1, 2, 98, 99, 100)]
        self.assertEqual(found, [(0, None), (1, (0, 99)), (1, (0, 99)), (1, (0, 99)), (1, (0, 99)), (496, None)])

    def test_errors_in_order(self):
        for value in others(Run):
            for call in (lambda: window(value, None), lambda: delay_in(value, None), lambda: inside_at(value, None)):
                fails(self, InvalidOperation, call)
        for value in others(int) + [-1, 4, 10 ** 39, "0"]:
            fails(self, InvalidNumber, window, RUN, value, keeps=("value", value))
            fails(self, InvalidNumber, delay_in, RUN, value, keeps=("value", value))
        for value in others(int) + [-1, 15, 10 ** 39, "0"]:
            fails(self, InvalidNumber, inside_at, RUN, value, keeps=("value", value))

    def test_a_run_without_jobs(self):
        for levels in (BEST, Levels(NONE)):
            run = Run(levels, ())
            fails(self, InvalidNumber, window, run, 0, keeps=("value", 0))
            fails(self, InvalidNumber, delay_in, run, 0, keeps=("value", 0))
            fails(self, InvalidNumber, inside_at, run, 0, keeps=("value", 0))
            self.assertEqual(list(visits(run)), [])


class LockTest(unittest.TestCase):
    def test_visits_as_told(self):
        seen = 0
        for run in samples(60):
            rows = []
            for index, job in enumerate(run.plan):
                ticks = ticks_of(run, index)
                for begin, end, lock in run.levels.tasks[job[1]][5]:
                    felt = [tick for ran, tick in enumerate(ticks) if begin <= ran < end]
                    if felt:
                        rows.append((lock, index, felt[0], felt[-1]))
            self.assertEqual(list(visits(run)), sorted(rows))
            seen += len(rows)
        self.assertGreater(seen, 200)

    def test_inside_as_told(self):
        seen = 0
        for run in samples(60):
            ran = [0] * len(run.plan)
            for tick in range(len(run)):
                rows = []
                for index in run.started_at(tick):
                    for begin, end, lock in run.levels.tasks[run.plan[index][1]][5]:
                        if begin < ran[index] < end:
                            rows.append((index, lock))
                self.assertEqual(inside_at(run, tick), tuple(rows))
                seen += len(rows)
                for index in run.started_at(tick)[-1:]:
                    ran[index] += 1
        self.assertGreater(seen, 200)

    def test_no_two_jobs_are_in_sections_of_one_lock(self):
        for run in samples(100):
            rows = list(visits(run))
            for one, two in zip(rows, rows[1:]):
                if one[0] == two[0]:
                    self.assertTrue(one[3] < two[2] or two[3] < one[2], (run.levels.tasks.tasks, run.plan))
        # Also of jobs that are interrupted in a section.
        for run in samples(100):
            held = sorted([(lock, first, last) for lock, _, first, last in visits(run)])
            for one, two in zip(held, held[1:]):
                self.assertTrue(one[0] < two[0] or one[2] < two[1])

    def test_who_starts_above_a_section_is_more_urgent_than_its_ceiling(self):
        for run in samples(100):
            for tick, index, other in run.interruptions():
                for at, lock in inside_at(run, tick):
                    if at == other:
                        self.assertGreater(urgency_of(run, index), ceiling(run.levels.tasks, lock))

    def test_sections_of_one_tick_and_sections_side_by_side(self):
        tasks = Tasks(make_task("low", 6, 60, (0, 1, "y"), (1, 3, "x"), (3, 4, "x"), (4, 5, "w")))
        run = Run(Levels(tasks, 0), ((2, "low", 6),))
        self.assertEqual(list(visits(run)), [("w", 0, 6, 6), ("x", 0, 3, 4), ("x", 0, 5, 5), ("y", 0, 2, 2)])
        self.assertEqual([inside_at(run, tick) for tick in range(8)], [(), (), (), (), ((0, "x"),), (), (), ()])

    def test_a_job_that_ends_in_its_section_or_before_it(self):
        tasks = Tasks(make_task("low", 6, 60, (1, 4, "x"), (4, 5, "y")))
        rows = [list(visits(Run(Levels(tasks, 0), ((0, "low", length),)))) for length in range(1, 7)]
        self.assertEqual(rows[:3], [[], [("x", 0, 1, 1)], [("x", 0, 1, 2)]])
        self.assertEqual(rows[3:], [[("x", 0, 1, 3)], [("x", 0, 1, 3), ("y", 0, 4, 4)], [("x", 0, 1, 3), ("y", 0, 4, 4)]])

    def test_a_section_that_is_interrupted(self):
        tasks = Tasks(make_task("low", 6, 60, (0, 5, "x")), make_task("mid", 6, 60, (1, 5, "y")), make_task("top", 2, 60))
        run = Run(Levels.least(tasks), ((0, "low", 6), (2, "mid", 4), (4, "top", 2)))
        self.assertEqual(list(visits(run)), [("x", 0, 0, 10), ("y", 1, 3, 7)])
        self.assertEqual([inside_at(run, tick) for tick in (1, 2, 3, 4, 5, 7, 8)], [
            ((0, "x"),), ((0, "x"),), ((0, "x"),), ((0, "x"), (1, "y")), ((0, "x"), (1, "y")), ((0, "x"), (1, "y")), ((0, "x"),),
        ])

    def test_visits_is_a_generator(self):
        found = visits(RUN)
        self.assertIs(iter(found), found)
        self.assertEqual([next(found), next(found), next(found, None)], [("map", 1, 2, 3), ("map", 2, 7, 8), None])
        for value in others(Run):
            found = visits(value)
            fails(self, InvalidOperation, next, found)

    def test_a_long_run(self):
        run = Run(BEST, dense_plan(CAR, 2000))
        rows = list(visits(run))
        self.assertEqual(len(rows), 100 + 167)
        self.assertEqual(rows, sorted(rows))
        self.assertEqual(inside_at(run, rows[-1][2]), ())
        self.assertEqual(inside_at(run, rows[-1][3]), ((rows[-1][1], "map"),))


if __name__ == "__main__":
    unittest.main()
