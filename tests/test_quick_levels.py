"""11.2 and 13.1 to 13.4: questions about levels that are to be answered soon, with and without good ones."""

import random
import unittest

from holdlevels.answers.demands import is_in_time, works_of
from holdlevels.errors import NoLevels
from holdlevels.good.greatest import can_interrupt, greatest_levels, is_levels_paper, levels_paper, lowerings, must_interrupt
from holdlevels.good.tolerances import tolerance
from holdlevels.tasks.tasks import make_task
from holdlevels.tasks.tasksets import Tasks
from tests.papers import behind_told, good_ones, is_levels_paper_told
from tests.reference import busy_tasks, held_off, locked_tasks, shown_told, some_tasks, table_told
from tests.samples import CAR, calls_of, fails

HARD = Tasks(make_task("a", 1, 17, deadline=60), make_task("b", 9, 97, deadline=20), make_task("c", 9, 23, deadline=12), make_task("d", 2, 7, deadline=3))
SAME = Tasks(make_task("a", 9, 30, deadline=2000), make_task("b", 9, 30, deadline=2000), make_task("c", 9, 30, deadline=2000))
LOCKED = Tasks(make_task("low", 9, 100, (1, 8, "x")), make_task("mid", 2, 100), make_task("top", 2, 100, (0, 1, "x"), deadline=4))
# A round of many jobs, in which a later one has the worst answer.
LONG = Tasks(make_task("z", 1, 5, deadline=300), *[make_task(name, 10, 100 + gap, deadline=300) for gap, name in enumerate("abcd")],
             make_task("t", 1, 4, deadline=300))


def hard_tasks(luck):
    """Return tasks with short deadlines, most of which have no good levels."""
    tasks = luck.choice([some_tasks, busy_tasks, locked_tasks])(luck)
    for name in tasks.names:
        tasks = tasks.changed(name, deadline=luck.randint(1, 30))
    return tasks


class InTimeTest(unittest.TestCase):
    def check(self, tasks, name, level, held):
        urgency = tasks.urgency(name)
        worst = shown_told(tasks, name, table_told(tasks, name, level, held))
        for deadline in (worst - 2, worst - 1, worst, worst + 1, 2 * worst, 20000):
            self.assertIs(is_in_time(works_of(tasks), urgency, level, held, deadline), worst <= deadline, (tasks.tasks, name, level, held, deadline))

    def test_as_told(self):
        luck = random.Random(140)
        for _ in range(120):
            tasks = luck.choice([some_tasks, busy_tasks])(luck)
            name = luck.choice(tasks.names)
            self.check(tasks, name, luck.randint(tasks.urgency(name), len(tasks) - 1), luck.choice([0, 1, 5, luck.randint(0, 99), 99]))

    def test_long_rounds(self):
        for name, level, held in (("z", 0, 0), ("z", 3, 1), ("z", 5, 30), ("c", 3, 99), ("c", 5, 9), ("t", 5, 99)):
            self.check(LONG, name, level, held)
        for name, held in (("a", 8), ("a", 99), ("b", 99), ("c", 99)):
            self.check(SAME, name, 2, held)

    def test_rounds_that_go_on_though_a_job_has_ended(self):
        # Near tasks that wait behind the first job hold off the next one; a later job has the worst answer.
        tasks = Tasks(make_task("a", 5, 30), make_task("b", 2, 16), make_task("c", 5, 20), make_task("d", 7, 21))
        self.check(tasks, "a", 1, 1)
        # Later jobs are late by one tick only, where the first ones are just in time.
        self.check(Tasks(make_task("a", 1, 2), make_task("b", 2, 6)), "a", 0, 3)
        self.check(Tasks(make_task("a", 2, 4), make_task("b", 3, 9)), "a", 0, 3)

    def test_tolerances(self):
        for deadline, level in ((25, 0), (70, 3), (90, 5)):
            tasks = LONG.changed("z", deadline=deadline)
            found = tolerance(tasks, "z", level)
            for ticks in (0,) if found is None else (found, found + 1):
                self.assertIs(shown_told(tasks, "z", table_told(tasks, "z", level, ticks)) <= deadline, ticks == found)
        self.assertEqual([tolerance(LONG.changed("z", deadline=20000), "z", 5), tolerance(LONG.changed("z", deadline=1), "z", 5)], [99, None])


class NoneTest(unittest.TestCase):
    def test_the_issue(self):
        paper = levels_paper(HARD)
        self.assertEqual((paper[0], [step[:2] for step in paper[1]], paper[2]), ("none", [("c", "d"), ("b", "c"), ("a", "b")], "b"))
        self.assertTrue(is_levels_paper(HARD, paper) and is_levels_paper_told(HARD, paper))
        self.assertEqual([greatest_levels(HARD), levels_paper(HARD, least=True)], [None, paper])
        for name in HARD.names:
            for other in HARD.names:
                for call in (must_interrupt, can_interrupt):
                    fails(self, NoLevels, call, HARD, name, other, keeps=("paper", paper))

    def test_tasks_without_good_levels(self):
        luck = random.Random(141)
        none = locks = 0
        for _ in range(400):
            tasks = hard_tasks(luck)
            good = good_ones(tasks)
            name, other = luck.choice(tasks.names), luck.choice(tasks.names)
            paper = levels_paper(tasks)
            self.assertIs(is_levels_paper(tasks, paper), True)
            self.assertTrue(is_levels_paper_told(tasks, paper))
            if good:
                self.assertEqual(must_interrupt(tasks, name, other), all([levels.may_interrupt(name, other) for levels in good]))
                self.assertEqual(can_interrupt(tasks, name, other), any([levels.may_interrupt(name, other) for levels in good]))
                self.assertEqual(paper[0], "greatest")
                continue
            none += 1
            self.assertEqual(paper[:2], ("none", tuple(lowerings(tasks))))
            # No task below the late one could be named as well: behind the steps none of them is late anyway.
            levels = behind_told(tasks, "greatest", paper[1])
            for lower in tasks.names[:tasks.urgency(paper[2])]:
                held = max([0] + [ticks for ticks, _, lock in held_off(levels, lower) if lock is not None])
                self.assertLessEqual(shown_told(tasks, lower, table_told(tasks, lower, levels[lower], held)), tasks[lower][3])
            locks += min([tasks.urgency(job[1]) for job in paper[3]]) < tasks.urgency(paper[2])
            for call in (must_interrupt, can_interrupt):
                fails(self, NoLevels, call, tasks, name, other, keeps=("paper", paper))
        self.assertGreater(none, 100)
        self.assertGreater(locks, 5)

    def test_how_much_is_done(self):
        # Calls of functions tell it without a clock: there were 3578, 3078 and 2711 of them for HARD once.
        for tasks, most in ((HARD, 400), (LOCKED, 300), (CAR, 400), (SAME, 300)):
            low, top = tasks.names[0], tasks.names[-1]

            def quietly(call):
                try:
                    call(tasks, top, low)
                except NoLevels:
                    pass

            self.assertLess(calls_of(lambda: quietly(must_interrupt)), most)
            self.assertLess(calls_of(lambda: quietly(can_interrupt)), most)
            self.assertLess(calls_of(lambda: levels_paper(tasks)), most)
            self.assertLess(calls_of(lambda: greatest_levels(tasks)), most // 2)


if __name__ == "__main__":
    unittest.main()
