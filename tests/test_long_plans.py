"""0.12 and stage 4: plans with many thousands of jobs."""

import unittest

from holdlevels.errors import InvalidNumber, InvalidPlan, UnknownName
from holdlevels.runs.plans import dense_plan, is_plan, is_thinner, jobs_of, make_plan, merged, plan_of, shifted, shortened
from holdlevels.runs.plans import without_jobs, work_in
from holdlevels.tasks.tasks import make_task
from holdlevels.tasks.tasksets import Tasks
from tests.samples import calls_of, fails

CREW = Tasks.of((("a", 100, 1000, 20000, 0, ()), ("b", 1, 2, 1, 10 ** 6, ())))
LONG = dense_plan(CREW, 20000)
TEN = Tasks(*[make_task(name, 1, 20) for name in "abcdefghij"])
MIDST = 5000


def with_job(at, job):
    """Return the long plan with another job at an index."""
    return LONG[:at] + (job,) + LONG[at + 1:]


def otherwise(at):
    """Return plans, one of whose jobs is otherwise; the job at the index is one of b between two of b."""
    tick, name, length = LONG[at]
    rows = [(tick - 1, name, length), (tick + 1, name, length)]
    rows += [(tick, name, 2), (tick, name, 0), (tick, name, -1), (tick, "a", 101), (tick, "a", 1), (tick, "c", 1), (tick, "", 1)]
    rows += [(str(tick), name, length), (None, name, length), ((tick,), name, length), ([tick], name, length), ({}, name, length)]
    rows += [(tick, None, length), (tick, 1, length), (tick, ["b"], length), (tick, ("b",), length), (tick, {"b": 1}, length)]
    rows += [(tick, name, "1"), (tick, name, None), (tick, name, True), (tick, name, [1]), (tick, name, {}), (tick, name, (1,))]
    rows += [(tick, name), (tick, name, length, 1), (), (name, tick, length), list(LONG[at]), "abc", {tick: 1, name: 2, length: 3}]
    rows += [None, tick, True, CREW, LONG, (-1, name, length), (20001, name, length), (10 ** 39, name, length), (tick, name, 10 ** 39)]
    return [with_job(at, row) for row in rows]


class LongPlanTest(unittest.TestCase):
    def test_the_example(self):
        self.assertEqual(len(LONG), 10020)
        self.assertEqual(work_in(CREW, LONG, "a", 0, 20000), 2000)
        self.assertEqual(shifted(CREW, LONG, 2)[-1], (20000, "b", 1))
        fails(self, InvalidPlan, shifted, CREW, LONG, 3)

    def test_dense_plan(self):
        rows = [(tick, "a", 100) for tick in range(0, 20000, 1000)] + [(tick, "b", 1) for tick in range(0, 20000, 2)]
        self.assertEqual(LONG, tuple(sorted(rows)))
        self.assertEqual(dense_plan(CREW, 20000, "b"), tuple(rows[20:]))
        self.assertEqual(len(dense_plan(TEN, 20000)), 10000)

    def test_is_plan(self):
        self.assertIs(is_plan(CREW, LONG), True)
        self.assertIs(is_plan(CREW, LONG + ((20000, "a", 100), (20000, "b", 1))), True)
        self.assertIs(is_plan(CREW, list(LONG)), False)
        self.assertIs(is_plan(CREW, LONG[::-1]), False)
        self.assertIs(is_plan(CREW, LONG + ((20001, "b", 1),)), False)
        self.assertIs(is_plan(CREW, LONG + LONG[-1:]), False)
        self.assertIs(is_plan(CREW, LONG[:1] + LONG), False)
        self.assertIs(is_plan(TEN, LONG), False)
        self.assertIs(is_plan(TEN, dense_plan(TEN, 20000)), True)

    def test_one_job_otherwise(self):
        for at in (1, 2, MIDST, len(LONG) - 2, len(LONG) - 1):
            self.assertEqual(LONG[at][1], "b")
            for value in otherwise(at):
                if value == LONG[:-1] + ((19999, "b", 1),):
                    continue
                self.assertIs(is_plan(CREW, value), False, (at, value[at]))
                fails(self, InvalidPlan, shifted, CREW, value, None)
                fails(self, InvalidPlan, jobs_of, CREW, value, None)

    def test_one_job_otherwise_at_the_edges(self):
        # The first job of b is the only one ahead of which nothing is, the last one the only one behind which nothing is.
        self.assertIs(is_plan(CREW, LONG[:-1] + ((19999, "b", 1),)), True)
        self.assertIs(is_plan(CREW, ((0, "a", 99),) + LONG[1:]), True)
        for row in ((0, "a", 101), (0, "a", True), (False, "a", 100), (0, "b", 1), (1, "a", 100), (-1, "a", 100)):
            self.assertIs(is_plan(CREW, (row,) + LONG[1:]), False, row)
        at = jobs_of(CREW, LONG, "a")[10]
        for row in ((10000, "a", 101), (9999, "a", 100), (10001, "a", 100), (10000, "a", False)):
            self.assertIs(is_plan(CREW, with_job(at, row)), False, row)
        self.assertIs(is_plan(CREW, with_job(at, (10000, "a", 1))), True)

    def test_jobs_in_another_order(self):
        for at in (0, 1, MIDST, len(LONG) - 2):
            value = LONG[:at] + LONG[at + 1:at + 2] + LONG[at:at + 1] + LONG[at + 2:]
            self.assertIs(is_plan(CREW, value), False, at)
            self.assertEqual(plan_of(CREW, value), LONG)
        # Far apart in each task, and not ascending.
        at = jobs_of(CREW, LONG, "a")[10]
        self.assertIs(is_plan(CREW, LONG[:at] + LONG[at + 1:at + 9] + LONG[at:at + 1] + LONG[at + 9:]), False)
        self.assertIs(is_plan(CREW, LONG[at:at + 1] + LONG[:at] + LONG[at + 1:]), False)
        self.assertEqual(make_plan(CREW, *LONG[::-1]), LONG)

    def test_shifted(self):
        for ticks in (0, 1, 2):
            later = shifted(CREW, LONG, ticks)
            self.assertEqual(later, tuple([(tick + ticks, name, length) for tick, name, length in LONG]))
            self.assertIs(is_plan(CREW, later), True)
            self.assertEqual(shifted(CREW, later, -ticks), LONG)
            fails(self, InvalidPlan, shifted, CREW, later, -ticks - 1)
            fails(self, InvalidPlan, shifted, CREW, later, 3 - ticks)
        for ticks in (3, -1, 10 ** 39, -10 ** 39):
            fails(self, InvalidPlan, shifted, CREW, LONG, ticks)
        for value in (None, True, "1", (1,)):
            fails(self, InvalidNumber, shifted, CREW, LONG, value, keeps=("value", value))

    def test_merged(self):
        one, two = LONG[:6000], LONG[4000:]
        self.assertEqual(merged(CREW, one, two), LONG)
        self.assertEqual(merged(CREW, two, one), LONG)
        self.assertEqual(merged(CREW, LONG, LONG), LONG)
        self.assertEqual(merged(CREW, dense_plan(CREW, 20000, "a"), dense_plan(CREW, 20000, "b")), LONG)
        fails(self, InvalidPlan, merged, CREW, LONG, ((19999, "b", 1),))
        fails(self, InvalidPlan, merged, CREW, LONG, ((10000, "a", 1),))
        for value in (with_job(MIDST, None), LONG[::-1], LONG + (None,)):
            fails(self, InvalidPlan, merged, CREW, LONG, value)
            fails(self, InvalidPlan, merged, CREW, value, LONG)

    def test_without_jobs(self):
        self.assertEqual(without_jobs(CREW, LONG, *range(10000)), LONG[10000:])
        self.assertEqual(without_jobs(CREW, LONG, 10019, MIDST, 0, MIDST), LONG[1:MIDST] + LONG[MIDST + 1:-1])
        fails(self, InvalidNumber, without_jobs, CREW, LONG, 0, 10020, keeps=("value", 10020))

    def test_shortened_and_thinner(self):
        at = jobs_of(CREW, LONG, "a")[19]
        for index in (0, at):
            thin = shortened(CREW, LONG, index, 1)
            self.assertEqual(thin, LONG[:index] + ((LONG[index][0], "a", 1),) + LONG[index + 1:])
            self.assertEqual([is_thinner(CREW, LONG, thin), is_thinner(CREW, thin, LONG)], [True, False])
        self.assertEqual(shortened(CREW, LONG, 10019, 1), LONG)
        fails(self, InvalidNumber, shortened, CREW, LONG, 10019, 2, keeps=("value", 2))
        for value in (LONG, LONG[1:], LONG[:-1], LONG[::2], ()):
            self.assertIs(is_thinner(CREW, LONG, value), True)
        for value in (LONG + ((20000, "b", 1),), LONG[:-1] + ((19999, "b", 1),), with_job(MIDST, None), LONG[::-1]):
            self.assertIs(is_thinner(CREW, LONG, value), False)

    def test_jobs_of_and_work_in(self):
        found = jobs_of(CREW, LONG, "a")
        self.assertEqual(found[:3], (0, 501, 1002))
        self.assertEqual(found + jobs_of(CREW, LONG, "b"), tuple(sorted(range(10020), key=lambda at: (LONG[at][1], at))))
        for begin, end, work in ((0, 20000, 10000), (1, 20000, 9999), (0, 19998, 9999), (9999, 10002, 1), (-10 ** 39, 10 ** 39, 10000), (5, 4, 0)):
            self.assertEqual(work_in(CREW, LONG, "b", begin, end), work)
        self.assertEqual(work_in(CREW, LONG, "a", 1000, 19000), 1800)
        fails(self, UnknownName, work_in, CREW, LONG, "c", None, None, keeps=("name", "c"))
        fails(self, InvalidNumber, work_in, CREW, LONG, "a", None, True, keeps=("value", None))


class FewCallsTest(unittest.TestCase):
    """A look at a plan makes no call for each of its jobs, and each plan is looked at once."""

    def test_calls(self):
        for action in (
            lambda: is_plan(CREW, LONG), lambda: dense_plan(CREW, 20000), lambda: shifted(CREW, LONG, 2), lambda: merged(CREW, LONG, LONG),
            lambda: shortened(CREW, LONG, 0, 1), lambda: is_thinner(CREW, LONG, LONG), lambda: jobs_of(CREW, LONG, "a"),
            lambda: work_in(CREW, LONG, "a", 0, 20000), lambda: without_jobs(CREW, LONG, 1),
        ):
            self.assertLess(calls_of(action), 100)
        self.assertGreater(calls_of(lambda: [is_plan(CREW, ()) for _ in range(100)]), 100)


if __name__ == "__main__":
    unittest.main()
