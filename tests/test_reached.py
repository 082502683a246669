"""0.18, 10.1, 10.2 and stage 10: plans that reach worst answers."""

import random
import unittest

from holdlevels.answers.reached import is_worst_plan, late_plan, reaching_plan, worst_plan
from holdlevels.answers.worst import answer_table, delay, worst_answer, worst_job
from holdlevels.errors import InvalidLevels, InvalidNumber, UnknownName
from holdlevels.runs.plans import is_plan, shifted, shortened, without_jobs
from holdlevels.runs.runs import Run
from holdlevels.tasks.levels import Levels
from holdlevels.tasks.tasks import make_task
from holdlevels.tasks.tasksets import Tasks
from tests.papers import are_good_told, late_names, lower_names, tight_tasks
from tests.reference import busy_tasks, full_plan, plan_told, played, some_levels, some_tasks, worst_told
from tests.samples import BEST, CAR, NONE, NOT_NUMBERS, NOT_PLANS, OWN, PLAIN, fails, others

HELD = ((0, "plan", 4), (1, "brake", 2), (1, "steer", 3))
PUSH = Levels(Tasks(make_task("draw", 4, 9, deadline=16), make_task("note", 6, 15), make_task("page", 5, 100)), 2, 1, 2)
GREAT = Tasks(*[make_task(name, 100, 1000) for name in "ihgfedcba"])
LONG = Tasks(make_task("low", 1, 2), *[make_task(name, 40, 900) for name in "bcdefghij"])


def samples(many):
    luck = random.Random(10)
    for _ in range(many):
        tasks = luck.choice([some_tasks, busy_tasks, busy_tasks])(luck)
        yield luck.choice([Levels.greatest(tasks), some_levels(luck, tasks), some_levels(luck, tasks)])


def answers_of(levels, name, plan):
    """Return the answers of the jobs of a task, by the slow way."""
    return [end - job[0] for job, end in zip(plan, played(levels, plan)[3]) if job[1] == name]


def is_worst_told(levels, name, plan):
    tasks = levels.tasks
    return len(lower_names(tasks, name, plan)) <= 1 and worst_told(levels, name) in answers_of(levels, name, plan)


class WorstPlanTest(unittest.TestCase):
    def test_examples(self):
        found = [Run(BEST, HELD).answers] + [is_worst_plan(BEST, name, HELD) for name in ("steer", "brake", "plan")]
        self.assertEqual(found, [(4, 5, 8), True, False, False])
        found = [is_worst_plan(BEST, "brake", HELD[:2]), late_plan(BEST), late_plan(Levels(CAR, 1, 3, 3, 3)) is None]
        self.assertEqual(found, [True, None, False])

    def test_each_task_has_a_worst_plan(self):
        kinds = set()
        for levels in [PUSH, *samples(300)]:
            tasks = levels.tasks
            for name in tasks.names:
                plan = worst_plan(levels, name)
                self.assertIs(is_plan(tasks, plan), True)
                self.assertTrue(is_worst_told(levels, name, plan), (tasks.tasks, levels.numbers, name))
                self.assertIs(is_worst_plan(levels, name, plan), True)
                kinds.add((delay(levels, name) > 0, worst_job(levels, name) > 0))
        self.assertLessEqual({(False, False), (False, True), (True, False)}, kinds)

    def test_whoever_made_it(self):
        luck = random.Random(100)
        found = {True: 0, False: 0}
        for levels in samples(150):
            tasks = levels.tasks
            for name in tasks.names:
                plan = plan_told(levels, name)
                self.assertIs(is_worst_plan(levels, name, plan), True)
                later = shifted(tasks, plan, luck.randint(0, 9000))
                self.assertIs(is_worst_plan(levels, name, later), True)
                for _ in range(4):
                    at = luck.randrange(len(plan))
                    for value in (without_jobs(tasks, plan, at), shortened(tasks, plan, at, luck.randint(1, plan[at][2])), full_plan(luck, tasks, 20)):
                        told = is_worst_told(levels, name, value)
                        self.assertIs(is_worst_plan(levels, name, value), told, (tasks.tasks, levels.numbers, name, value))
                        found[told] += 1
        self.assertGreater(min(found.values()), 100)

    def test_at_most_one_less_urgent_job(self):
        tasks = Tasks(make_task("a", 5, 50), make_task("b", 5, 50), make_task("c", 2, 50))
        levels = Levels.greatest(tasks)
        self.assertIs(is_worst_plan(levels, "c", ((0, "b", 5), (1, "c", 2))), True)
        self.assertIs(is_worst_plan(levels, "c", ((0, "a", 5), (1, "c", 2))), True)
        self.assertIs(is_worst_plan(levels, "c", ((0, "a", 1), (1, "b", 5), (2, "c", 2))), False)
        self.assertIs(is_worst_plan(levels, "c", ((0, "b", 5), (1, "c", 2), (50, "b", 5))), False)
        # More jobs of the task itself and of more urgent ones are free.
        self.assertIs(is_worst_plan(levels, "b", ((0, "a", 5), (1, "b", 5), (1, "c", 2), (90, "b", 1), (190, "c", 1))), True)
        self.assertIs(is_worst_plan(levels, "b", ((0, "a", 5), (1, "b", 4), (1, "c", 2), (90, "b", 1))), False)
        # Another job that is late does not count.
        self.assertIs(is_worst_plan(levels, "c", ((0, "b", 5), (1, "c", 1))), False)

    def test_other_values(self):
        for value in NOT_PLANS + [()]:
            self.assertIs(is_worst_plan(BEST, "steer", value), False, value)

    def test_the_greatest_numbers(self):
        for levels in (Levels.greatest(GREAT), Levels.least(GREAT), Levels.greatest(LONG), Levels.least(LONG)):
            for name in levels.tasks.names:
                plan = worst_plan(levels, name)
                self.assertIn(worst_answer(levels, name), answers_of(levels, name, plan))
                self.assertLessEqual(max(answers_of(levels, name, plan)), worst_answer(levels, name))

    def test_errors_in_order(self):
        for value in others(Levels):
            fails(self, InvalidLevels, worst_plan, value, None)
            fails(self, InvalidLevels, is_worst_plan, value, None, None)
            fails(self, InvalidLevels, reaching_plan, value, None, None)
            fails(self, InvalidLevels, late_plan, value)
        for value in PLAIN + OWN:
            fails(self, UnknownName, worst_plan, BEST, value, keeps=("name", value))
            fails(self, UnknownName, is_worst_plan, BEST, value, HELD, keeps=("name", value))
            fails(self, UnknownName, reaching_plan, BEST, value, None, keeps=("name", value))
        fails(self, UnknownName, worst_plan, Levels(NONE), "a", keeps=("name", "a"))


class ReachingPlanTest(unittest.TestCase):
    def test_the_job_with_this_number_has_its_answer(self):
        many = 0
        for levels in samples(300):
            tasks = levels.tasks
            for name in tasks.names:
                gap = tasks[name][2]
                _, pairs = answer_table(levels, name)
                many += len(pairs) > 1
                for number in {0, len(pairs) // 2, len(pairs) - 1}:
                    plan = reaching_plan(levels, name, number)
                    self.assertIs(is_plan(tasks, plan), True)
                    self.assertLessEqual(len(lower_names(tasks, name, plan)), 1)
                    answers = answers_of(levels, name, plan)
                    self.assertGreater(len(answers), number)
                    self.assertEqual(answers[number], pairs[number][1] - number * gap)
        self.assertGreater(many, 50)

    def test_a_later_job_than_the_first(self):
        rows = [answers_of(PUSH, "draw", reaching_plan(PUSH, "draw", number))[number] for number in range(5)]
        self.assertEqual(rows, [15, 16, 11, 6, 7])
        self.assertEqual(max(answers_of(PUSH, "draw", worst_plan(PUSH, "draw"))), 16)

    def test_wrong_numbers(self):
        for value in NOT_NUMBERS + [-1, 5, 10 ** 39]:
            fails(self, InvalidNumber, reaching_plan, PUSH, "draw", value, keeps=("value", value))
        fails(self, InvalidNumber, reaching_plan, BEST, "log", 1, keeps=("value", 1))


class LatePlanTest(unittest.TestCase):
    def test_just_if_the_levels_are_not_good(self):
        luck = random.Random(101)
        found = {True: 0, False: 0}
        for _ in range(200):
            tasks = tight_tasks(luck, luck.choice([some_tasks, busy_tasks])(luck))
            levels = some_levels(luck, tasks)
            plan = late_plan(levels)
            good = are_good_told(levels)
            self.assertIs(plan is None, good)
            found[good] += 1
            if not good:
                self.assertIs(is_plan(tasks, plan), True)
                self.assertTrue(late_names(levels, plan))
        self.assertGreater(min(found.values()), 40)

    def test_no_tasks(self):
        self.assertIs(late_plan(Levels(NONE)), None)


if __name__ == "__main__":
    unittest.main()
