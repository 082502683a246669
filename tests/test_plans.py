"""0.12, 4.1 and stage 4: plans."""

import random
import unittest

from holdlevels.errors import InvalidNumber, InvalidOperation, InvalidPlan, InvalidTasks, UnknownName
from holdlevels.runs.plans import MAX_TICK, dense_plan, dense_plan_of, is_plan, is_thinner, jobs_of, make_plan, merged
from holdlevels.runs.plans import plan_of, shifted, shortened, without_jobs, work_in
from holdlevels.tasks.tasksets import Tasks
from tests.samples import BEST, CAR, NONE, NOT_NUMBERS, NOT_PLANS, OWN, PLAIN, THREE, fails, others


class PlanTest(unittest.TestCase):
    def test_examples(self):
        plan = dense_plan(CAR, 13, "brake", "steer")
        self.assertEqual(plan, ((0, "brake", 2), (0, "steer", 3), (10, "brake", 2), (12, "steer", 3)))
        self.assertIs(is_plan(CAR, ((0, "brake", 2), (5, "brake", 1))), False)
        self.assertEqual(work_in(CAR, plan, "brake", 0, 10), 2)
        self.assertEqual(shortened(CAR, plan, 3, 1)[3], (12, "steer", 1))
        self.assertEqual(without_jobs(CAR, plan, 2, 3), ((0, "brake", 2), (0, "steer", 3)))
        self.assertEqual(MAX_TICK, 20000)

    def test_plans(self):
        for value in (
            (), THREE, ((20000, "log", 1),), ((0, "brake", 2), (10, "brake", 1)), ((0, "brake", 1), (0, "log", 1)),
            ((0, "brake", 2), (0, "steer", 1), (10, "brake", 2), (12, "steer", 3), (20, "brake", 1)),
        ):
            self.assertIs(is_plan(CAR, value), True, value)
        self.assertIs(is_plan(NONE, ()), True)
        self.assertIs(is_plan(NONE, THREE), False)

    def test_other_values(self):
        for value in NOT_PLANS:
            self.assertIs(is_plan(CAR, value), False, value)

    def test_tasks_come_first(self):
        for value in others(Tasks) + [CAR.tasks]:
            for call in (
                lambda: is_plan(value, ()), lambda: make_plan(value, None), lambda: plan_of(value, None),
                lambda: dense_plan(value, None, None), lambda: dense_plan_of(value, None, None),
                lambda: shifted(value, None, None), lambda: merged(value, None, None),
                lambda: without_jobs(value, None, None), lambda: shortened(value, None, None, None),
                lambda: is_thinner(value, None, None), lambda: jobs_of(value, None, None),
                lambda: work_in(value, None, None, None, None),
            ):
                fails(self, InvalidTasks, call)

    def test_then_the_plan(self):
        for value in NOT_PLANS:
            for call in (
                lambda: shifted(CAR, value, None), lambda: merged(CAR, value, None), lambda: merged(CAR, value, THREE), lambda: merged(CAR, THREE, value),
                lambda: without_jobs(CAR, value, None), lambda: shortened(CAR, value, None, None),
                lambda: is_thinner(CAR, value, None), lambda: jobs_of(CAR, value, None),
                lambda: work_in(CAR, value, None, None, None),
            ):
                fails(self, InvalidPlan, call)


class MakePlanTest(unittest.TestCase):
    def test_any_order(self):
        for jobs in (THREE, THREE[::-1], (THREE[1], THREE[2], THREE[0])):
            self.assertEqual(make_plan(CAR, *jobs), THREE)
            self.assertEqual(plan_of(CAR, jobs), THREE)
        self.assertEqual(make_plan(CAR), ())
        self.assertEqual(plan_of(NONE, ()), ())

    def test_just_a_gap_apart(self):
        self.assertEqual(len(make_plan(CAR, (10, "brake", 1), (0, "brake", 1))), 2)
        fails(self, InvalidPlan, make_plan, CAR, (9, "brake", 1), (0, "brake", 1))
        fails(self, InvalidPlan, make_plan, CAR, (0, "brake", 1), (0, "brake", 1))

    def test_no_plan(self):
        for value in NOT_PLANS:
            if value in (THREE[::-1], ((0, "log", 1), (0, "brake", 1))):
                continue
            fails(self, InvalidPlan, plan_of, CAR, value)
            if isinstance(value, tuple):
                fails(self, InvalidPlan, make_plan, CAR, *value)
        for value in PLAIN + OWN:
            fails(self, InvalidPlan, make_plan, CAR, THREE[0], value)
            # Jobs that cannot be put in order.
            for job in ((value, "plan", 1), (0, value, 1), (0, "log", value)):
                if job != (0, "log", 1) and job != (0, "plan", 1) and job != (1, "plan", 1) and job != (3, "plan", 1):
                    fails(self, InvalidPlan, make_plan, CAR, THREE[0], job)
                    fails(self, InvalidPlan, plan_of, CAR, (job,) + THREE)


class DensePlanTest(unittest.TestCase):
    def test_all_tasks(self):
        plan = dense_plan(CAR, 21)
        right = (
            (0, "brake", 2), (0, "log", 6), (0, "plan", 4), (0, "steer", 3), (10, "brake", 2), (12, "steer", 3),
            (20, "brake", 2), (20, "plan", 4),
        )
        self.assertEqual(plan, right)
        self.assertEqual(dense_plan_of(CAR, 21, ()), right)
        self.assertEqual(dense_plan(CAR, 20), right[:6])

    def test_repeated_names_and_the_order_of_names(self):
        self.assertEqual(dense_plan(CAR, 13, "steer", "brake", "steer"), dense_plan_of(CAR, 13, ("brake", "steer")))

    def test_edges(self):
        self.assertEqual(dense_plan(CAR, 0), ())
        self.assertEqual(len(dense_plan(CAR, 1)), 4)
        self.assertEqual(dense_plan(NONE, 20000), ())
        longest = dense_plan(CAR, 20000)
        self.assertEqual(len(longest), 500 + 1000 + 1667 + 2000)
        self.assertIs(is_plan(CAR, longest), True)

    def test_errors_in_order(self):
        for value in NOT_NUMBERS + [-1, 20001, 10 ** 39]:
            fails(self, InvalidNumber, dense_plan, CAR, value, "x", keeps=("value", value))
            fails(self, InvalidNumber, dense_plan_of, CAR, value, None, keeps=("value", value))
        for value in PLAIN + OWN:
            if not isinstance(value, tuple):
                fails(self, InvalidOperation, dense_plan_of, CAR, 9, value)
            fails(self, UnknownName, dense_plan, CAR, 9, "log", value, "x", keeps=("name", value))
            fails(self, UnknownName, dense_plan_of, CAR, 9, (value, "x"), keeps=("name", value))


class ChangedPlanTest(unittest.TestCase):
    def test_shifted(self):
        later = shifted(CAR, THREE, 5)
        self.assertEqual(later, ((5, "log", 6), (8, "brake", 1), (8, "steer", 3)))
        self.assertEqual(shifted(CAR, later, -5), THREE)
        self.assertEqual(shifted(CAR, THREE, 0), THREE)
        self.assertEqual(shifted(CAR, THREE, 19997)[2], (20000, "steer", 3))
        self.assertEqual(shifted(CAR, (), 10 ** 39), ())
        for ticks in (-1, 19998, 10 ** 39, -10 ** 39):
            fails(self, InvalidPlan, shifted, CAR, THREE, ticks)
        for value in NOT_NUMBERS:
            fails(self, InvalidNumber, shifted, CAR, THREE, value, keeps=("value", value))

    def test_merged(self):
        other = ((0, "log", 6), (1, "plan", 2), (13, "brake", 2))
        both = ((0, "log", 6), (1, "plan", 2), (3, "brake", 1), (3, "steer", 3), (13, "brake", 2))
        self.assertEqual(merged(CAR, THREE, other), both)
        self.assertEqual(merged(CAR, other, THREE), both)
        self.assertEqual(merged(CAR, THREE, THREE), THREE)
        self.assertEqual(merged(CAR, (), THREE), THREE)
        self.assertEqual(merged(NONE, (), ()), ())
        fails(self, InvalidPlan, merged, CAR, THREE, ((12, "brake", 2),))
        fails(self, InvalidPlan, merged, CAR, THREE, ((0, "log", 5),))

    def test_without_jobs(self):
        self.assertEqual(without_jobs(CAR, THREE), THREE)
        self.assertEqual(without_jobs(CAR, THREE, 2, 0, 2), THREE[1:2])
        self.assertEqual(without_jobs(CAR, THREE, 0, 1, 2), ())
        for value in NOT_NUMBERS + [-1, 3, 10 ** 39]:
            fails(self, InvalidNumber, without_jobs, CAR, THREE, 0, value, 99, keeps=("value", value))
        fails(self, InvalidNumber, without_jobs, CAR, (), 0, keeps=("value", 0))

    def test_shortened(self):
        self.assertEqual(shortened(CAR, THREE, 0, 1), ((0, "log", 1),) + THREE[1:])
        self.assertEqual(shortened(CAR, THREE, 2, 3), THREE)
        short = shortened(CAR, THREE, 2, 2)
        self.assertEqual(short[2], (3, "steer", 2))
        for value in NOT_NUMBERS + [-1, 3, 10 ** 39]:
            fails(self, InvalidNumber, shortened, CAR, THREE, value, None, keeps=("value", value))
        for value in NOT_NUMBERS + [-1, 0, 3, 10 ** 39]:
            fails(self, InvalidNumber, shortened, CAR, short, 2, value, keeps=("value", value))

    def test_thinner(self):
        for value in ((), THREE, THREE[1:], ((0, "log", 1), (3, "steer", 3)), ((3, "brake", 1),)):
            self.assertIs(is_thinner(CAR, THREE, value), True, value)
        for value in NOT_PLANS + [((3, "brake", 2),), ((1, "log", 6),), ((0, "plan", 1),), THREE + ((13, "brake", 1),)]:
            self.assertIs(is_thinner(CAR, THREE, value), False, value)
        self.assertIs(is_thinner(CAR, (), ()), True)
        self.assertIs(is_thinner(CAR, (), THREE), False)

    def test_what_is_left_out_and_shortened_is_thinner(self):
        luck = random.Random(4)
        plan = dense_plan(CAR, 200)
        for _ in range(50):
            thin = plan
            for _ in range(luck.randrange(8)):
                index = luck.randrange(len(thin))
                if luck.random() < 0.5:
                    thin = without_jobs(CAR, thin, index)
                else:
                    thin = shortened(CAR, thin, index, luck.randint(1, thin[index][2]))
            self.assertIs(is_plan(CAR, thin), True)
            self.assertIs(is_thinner(CAR, plan, thin), True)
            self.assertIs(is_thinner(CAR, thin, plan), thin == plan)


class AskingTest(unittest.TestCase):
    def test_jobs_of(self):
        plan = dense_plan(CAR, 25)
        self.assertEqual(jobs_of(CAR, plan, "brake"), (0, 4, 6))
        self.assertEqual(jobs_of(CAR, plan, "log"), (1,))
        self.assertEqual(jobs_of(CAR, THREE, "plan"), ())

    def test_work_in(self):
        plan = dense_plan(CAR, 25)
        self.assertEqual(work_in(CAR, plan, "brake", 0, 21), 6)
        self.assertEqual(work_in(CAR, plan, "brake", 0, 20), 4)
        self.assertEqual(work_in(CAR, plan, "brake", 1, 20), 2)
        self.assertEqual(work_in(CAR, plan, "brake", 10, 11), 2)
        self.assertEqual(work_in(CAR, plan, "brake", 10, 10), 0)
        self.assertEqual(work_in(CAR, plan, "brake", 20, 10), 0)
        self.assertEqual(work_in(CAR, plan, "steer", -10 ** 39, 10 ** 39), 9)

    def test_errors_in_order(self):
        for value in PLAIN + OWN:
            fails(self, UnknownName, jobs_of, CAR, THREE, value, keeps=("name", value))
            fails(self, UnknownName, work_in, CAR, THREE, value, None, None, keeps=("name", value))
        for value in NOT_NUMBERS:
            fails(self, InvalidNumber, work_in, CAR, THREE, "log", value, "x", keeps=("value", value))
            fails(self, InvalidNumber, work_in, CAR, THREE, "log", 0, value, keeps=("value", value))


if __name__ == "__main__":
    unittest.main()
