"""0.15, 0.17 to 0.19, 13.1 to 13.4 and stage 13: greatest and least levels, and their papers."""

import random
import unittest

from holdlevels.answers.reached import worst_plan
from holdlevels.answers.worst import answer_table
from holdlevels.errors import InvalidLevels, InvalidOperation, InvalidTasks, NoLevels, UnknownName
from holdlevels.good.greatest import can_interrupt, good_path, greatest_levels, is_levels_paper, least_levels, levels_paper
from holdlevels.good.greatest import lowerings, must_interrupt, raisings
from holdlevels.good.judged import is_good
from holdlevels.runs.plans import shifted
from holdlevels.runs.runs import Run
from holdlevels.tasks.levels import Levels, all_levels
from holdlevels.tasks.tasks import make_task
from holdlevels.tasks.tasksets import Tasks
from tests.papers import altered, behind_told, good_ones, is_late_told, is_levels_paper_told, tight_tasks
from tests.reference import busy_tasks, locked_tasks, some_levels, some_tasks
from tests.samples import BEST, CAR, NONE, NOT_PLANS, OWN, PLAIN, fails, others

TABLES = {"brake": (5, ((3, 5),)), "log": (20, ((9, 20),)), "plan": (9, ((5, 9),)), "steer": (8, ((5, 8),))}
SLOW = ((0, "log", 6), (1, "brake", 2), (1, "plan", 4), (1, "steer", 3), (11, "brake", 2), (13, "steer", 3))
TIGHT = CAR.changed("plan", deadline=8)
FULL = ((0, "brake", 2), (0, "plan", 4), (0, "steer", 3))
ONE = Tasks(make_task("a", 100, 1000, deadline=20000, room=10 ** 6))
GREAT = Tasks(*[make_task(name, 100, 1000, deadline=20000) for name in "ihgfedcba"])
# Ten tasks that do not bear all levels of less urgent ones; the least urgent one must hold off "c".
TEN = Tasks(*[make_task(name, longest, 440 if name == "c" else 1000, deadline=deadline) for name, longest, deadline in (
    ("j", 90, 460), ("i", 80, 900), ("h", 70, 560), ("g", 60, 480), ("f", 50, 390), ("e", 40, 300), ("d", 30, 210), ("c", 20, 130),
    ("b", 10, 70), ("a", 5, 25),
)])
# The level of the less urgent task must be greater than its urgency.
RISEN = Tasks(make_task("a", 4, 40, deadline=7), make_task("b", 3, 6, deadline=8))
# Good without the lock, and not with it.
FREE = Tasks(make_task("low", 9, 100), make_task("mid", 2, 100), make_task("top", 2, 100, deadline=4))
LOCKED = Tasks(make_task("low", 9, 100, (1, 8, "x")), make_task("mid", 2, 100), make_task("top", 2, 100, (0, 1, "x"), deadline=4))


def samples(many):
    luck = random.Random(13)
    for at in range(many):
        if at % 3 == 2:
            yield locked_tasks(luck)
        else:
            yield tight_tasks(luck, luck.choice([some_tasks, busy_tasks])(luck))


def highest(levels):
    """Return the greatest of levels that are all good, by their numbers alone."""
    return tuple([max(row) for row in zip(*[one.numbers for one in levels])])


def lowest(levels):
    return tuple([min(row) for row in zip(*[one.numbers for one in levels])])


class GreatestTest(unittest.TestCase):
    def test_examples(self):
        found = [
            Run(Levels.greatest(CAR), SLOW).late, is_levels_paper(CAR, ("greatest", (("log", "plan", SLOW),), TABLES)),
            is_levels_paper(CAR, ("greatest", (), TABLES)),
        ]
        self.assertEqual(found, [(1, 2), True, False])
        found = [greatest_levels(CAR) == BEST, least_levels(CAR).numbers, greatest_levels(CAR, within=Levels(CAR, 2, 1, 3, 3)).numbers]
        self.assertEqual(found, [True, (0, 1, 2, 3), (0, 1, 3, 3)])
        self.assertEqual([greatest_levels(TIGHT), is_levels_paper(TIGHT, ("none", (), "plan", FULL))], [None, True])
        found = [
            must_interrupt(CAR, "steer", "log"), must_interrupt(CAR, "brake", "plan"), can_interrupt(CAR, "brake", "plan"),
            levels_paper(CAR, least=True)[:2], len(list(good_path(CAR))),
        ]
        self.assertEqual(found, [True, False, True, ("least", ()), 4])

    def test_greatest_and_least_of_all_good_ones(self):
        none = 0
        for tasks in samples(150):
            good = good_ones(tasks)
            if not good:
                none += 1
                self.assertEqual([greatest_levels(tasks), greatest_levels(tasks, within=None), least_levels(tasks)], [None] * 3)
                continue
            self.assertEqual(greatest_levels(tasks).numbers, highest(good))
            self.assertEqual(least_levels(tasks).numbers, lowest(good))
            self.assertIn(greatest_levels(tasks), good)
            self.assertIn(least_levels(tasks), good)
        self.assertGreater(none, 15)

    def test_within(self):
        some = {True: 0, False: 0}
        for tasks in samples(60):
            good = good_ones(tasks)
            for within in all_levels(tasks):
                below = [levels for levels in good if levels.is_within(within)]
                found = greatest_levels(tasks, within=within)
                some[bool(below)] += 1
                if below:
                    self.assertEqual(found.numbers, highest(below))
                    self.assertIn(found, below)
                else:
                    self.assertIs(found, None)
        self.assertGreater(min(some.values()), 50)
        self.assertEqual(greatest_levels(CAR, within=Levels.of(Tasks.of(CAR.tasks), (3, 3, 3, 3))), BEST)

    def test_edges(self):
        self.assertEqual([greatest_levels(NONE), least_levels(NONE), list(good_path(NONE))], [Levels(NONE), Levels(NONE), [Levels(NONE)]])
        self.assertEqual([greatest_levels(ONE), least_levels(ONE), list(good_path(ONE))], [Levels(ONE, 0)] * 2 + [[Levels(ONE, 0)]])
        self.assertEqual([greatest_levels(ONE.changed("a", deadline=99)), least_levels(ONE.changed("a", deadline=100)).numbers], [None, (0,)])
        self.assertEqual([greatest_levels(GREAT), least_levels(GREAT)], [Levels.greatest(GREAT), Levels.least(GREAT)])
        # The delays 0 and 99: what runs for 1 tick delays nobody.
        for longest, deadline, numbers in ((1, 1, (1, 1)), (2, 1, (0, 1)), (2, 2, (1, 1)), (100, 99, (0, 1)), (100, 100, (1, 1))):
            tasks = Tasks(make_task("low", longest, 500), make_task("top", 1, 1000, deadline=deadline))
            self.assertEqual(greatest_levels(tasks).numbers, numbers, (longest, deadline))

    def test_ten_tasks(self):
        greatest, least = greatest_levels(TEN), least_levels(TEN)
        self.assertTrue(least.is_within(greatest))
        self.assertNotIn(greatest.numbers, (Levels.greatest(TEN).numbers, Levels.least(TEN).numbers))
        for levels, raised in ((greatest, 1), (least, -1)):
            self.assertIs(is_good(levels), True)
            for name in TEN.names:
                level = levels[name] + raised
                if TEN.urgency(name) <= level < 10:
                    self.assertIs(is_good(levels.with_level(name, level)), False, (raised, name))
        self.assertIs(is_levels_paper(TEN, levels_paper(TEN)), True)
        self.assertIs(is_levels_paper(TEN, levels_paper(TEN, least=True)), True)
        path = list(good_path(TEN))
        self.assertEqual([path[0], path[-1], len(path)], [least, greatest, sum(greatest.numbers) - sum(least.numbers) + 1])
        self.assertTrue(all([is_good(levels) for levels in path]))

    def test_locks_do_not_change_the_greatest_levels(self):
        self.assertEqual([greatest_levels(FREE).numbers, greatest_levels(LOCKED), least_levels(LOCKED)], [(1, 2, 2), None, None])
        free = 0
        for tasks in samples(120):
            bare = Tasks(*[task[:5] + ((),) for task in tasks.tasks])
            locked, found = greatest_levels(tasks), greatest_levels(bare)
            self.assertTrue(locked is None or locked.numbers == found.numbers)
            free += locked is None and found is not None
        self.assertGreater(free, 5)

    def test_the_more_urgent_tasks_alone(self):
        for tasks in samples(80):
            levels = greatest_levels(tasks)
            if levels is not None:
                for name in tasks.names:
                    alone = tasks.only(name, *tasks.above(name))
                    self.assertEqual(greatest_levels(alone), levels.cut_to(*alone.names))

    def test_errors(self):
        for value in others(Tasks):
            fails(self, InvalidTasks, greatest_levels, value)
            fails(self, InvalidTasks, greatest_levels, value, within=0)
            fails(self, InvalidTasks, least_levels, value)
        for value in others(Levels) + [Levels(NONE), Levels.greatest(TIGHT), Levels.greatest(CAR.renamed(log="logg")), (0, 1, 2, 3)]:
            if value is not None:
                fails(self, InvalidLevels, greatest_levels, CAR, within=value)
        fails(self, InvalidLevels, greatest_levels, TIGHT, within=BEST)


class StepTest(unittest.TestCase):
    def test_steps_and_raises(self):
        many = {"greatest": 0, "least": 0}
        for tasks in samples(150):
            good = good_ones(tasks)
            for word, rows in (("greatest", tuple(lowerings(tasks))), ("least", tuple(raisings(tasks)))):
                levels = behind_told(tasks, word, rows)
                self.assertIsNotNone(levels, (tasks.tasks, word, rows))
                many[word] += len(rows)
                if good:
                    self.assertEqual(levels.numbers, highest(good) if word == "greatest" else lowest(good))
        self.assertGreater(min(many.values()), 40)

    def test_no_further_step_exists(self):
        for tasks in samples(60):
            levels = behind_told(tasks, "greatest", tuple(lowerings(tasks)))
            for lower in tasks.names:
                for upper in tasks.above(lower):
                    if tasks.urgency(upper) <= levels[lower]:
                        plan = worst_plan(Levels(tasks, *[levels[name] if name == lower or tasks.urgency(name) >= tasks.urgency(upper)
                                                          else tasks.urgency(name) for name in tasks.names]), upper)
                        if [job[1] for job in plan if tasks.urgency(job[1]) < tasks.urgency(upper)] in ([], [lower]):
                            self.assertFalse(is_late_told(levels, upper, plan), (tasks.tasks, lower, upper))
            levels = behind_told(tasks, "least", tuple(raisings(tasks)))
            for name in tasks.names:
                if levels[name] < len(tasks) - 1:
                    self.assertFalse(is_late_told(levels, name, worst_plan(levels, name)))

    def test_a_task_that_is_late_anyway(self):
        # Nobody delays it, and yet these are steps; then there are no good levels.
        tasks = Tasks(make_task("low", 1, 100), make_task("mid", 1, 100), make_task("top", 2, 100, deadline=1))
        rows = tuple(lowerings(tasks))
        self.assertEqual([row[:2] for row in rows], [("mid", "top"), ("low", "top")])
        self.assertEqual(behind_told(tasks, "greatest", rows).numbers, (1, 1, 2))
        self.assertEqual([levels_paper(tasks)[:3], list(raisings(tasks))], [("none", rows, "top"), []])

    def test_one_by_one(self):
        for call, tasks in ((lowerings, TEN), (raisings, RISEN)):
            found = call(tasks)
            self.assertIs(iter(found), found)
            row = next(found)
            self.assertEqual((row, *found), tuple(call(tasks)))
            self.assertEqual([list(call(NONE)), list(call(ONE)), list(call(GREAT))], [[]] * 3)
            for value in others(Tasks):
                found = call(value)
                fails(self, InvalidTasks, next, found)
        self.assertEqual([list(lowerings(CAR)), list(raisings(CAR))], [[("log", "plan", SLOW)], []])


class PathTest(unittest.TestCase):
    def test_good_path(self):
        long = 0
        for tasks in samples(120):
            good = good_ones(tasks)
            if not good:
                continue
            numbers = list(lowest(good))
            rows = [tuple(numbers)]
            for urgency in range(len(tasks) - 1, -1, -1):
                while numbers[urgency] < highest(good)[urgency]:
                    numbers[urgency] += 1
                    rows.append(tuple(numbers))
            path = list(good_path(tasks))
            self.assertEqual([levels.numbers for levels in path], rows)
            self.assertTrue(all([levels in good for levels in path]))
            long += len(path) > 2
        self.assertGreater(long, 20)

    def test_example(self):
        self.assertEqual([levels.numbers for levels in good_path(CAR)], [(0, 1, 2, 3), (0, 1, 3, 3), (0, 2, 3, 3), (0, 3, 3, 3)])

    def test_errors(self):
        for value in others(Tasks):
            found = good_path(value)
            fails(self, InvalidTasks, next, found)
        for tasks in (TIGHT, LOCKED):
            found = good_path(tasks)
            paper = fails(self, NoLevels, next, found).paper
            self.assertEqual(paper[0], "none")
            self.assertTrue(is_levels_paper_told(tasks, paper))


class InterruptTest(unittest.TestCase):
    def test_all_good_levels_and_some(self):
        kinds = set()
        for tasks in samples(100):
            good = good_ones(tasks)
            for name in tasks.names:
                for other in tasks.names:
                    if not good:
                        for call in (must_interrupt, can_interrupt):
                            paper = fails(self, NoLevels, call, tasks, name, other).paper
                            self.assertTrue(paper[0] == "none" and is_levels_paper_told(tasks, paper))
                        continue
                    rows = [levels.may_interrupt(name, other) for levels in good]
                    found = (must_interrupt(tasks, name, other), can_interrupt(tasks, name, other))
                    self.assertEqual(found, (all(rows), any(rows)))
                    kinds.add(found)
        self.assertEqual(kinds, {(False, False), (False, True), (True, True)})

    def test_the_same_and_different_tasks(self):
        # Under the greatest and the least levels of the first ones the same tasks interrupt one another.
        same = Tasks(make_task("low", 9, 100), make_task("top", 1, 100, deadline=1))
        self.assertEqual([greatest_levels(same), must_interrupt(same, "top", "low")], [least_levels(same), True])
        for tasks, name in ((CAR, "plan"), (GREAT, "i")):
            top = tasks.names[-1]
            self.assertEqual([must_interrupt(tasks, top, name), can_interrupt(tasks, top, name)], [False, True])
        self.assertEqual([must_interrupt(CAR, "log", "log"), can_interrupt(CAR, "log", "brake")], [False, False])

    def test_errors_in_order(self):
        for call in (must_interrupt, can_interrupt):
            for value in others(Tasks):
                fails(self, InvalidTasks, call, value, None, None)
            for value in PLAIN + OWN:
                fails(self, UnknownName, call, TIGHT, value, "x", keeps=("name", value))
                fails(self, UnknownName, call, TIGHT, "log", value, keeps=("name", value))
            fails(self, UnknownName, call, NONE, "a", "b", keeps=("name", "a"))


class PaperTest(unittest.TestCase):
    def test_papers_of_just_one_kind(self):
        words = {"greatest": 0, "least": 0, "none": 0}
        locks = 0
        for tasks in samples(150):
            good = good_ones(tasks)
            for least in (False, True):
                paper = levels_paper(tasks, least=least)
                word = "none" if not good else "least" if least else "greatest"
                self.assertEqual((paper[0], len(paper)), (word, 3 if good else 4))
                self.assertIs(is_levels_paper(tasks, paper), True)
                self.assertTrue(is_levels_paper_told(tasks, paper), (tasks.tasks, paper))
                words[word] += len(paper[1]) > 0
                if good:
                    self.assertEqual(list(paper[2]), sorted(tasks.names))
                else:
                    locks += min([tasks.urgency(job[1]) for job in paper[3]]) < tasks.urgency(paper[2])
            if not good:
                for call, word in ((lowerings, "greatest"), (raisings, "least")):
                    rows = tuple(call(tasks))
                    levels = behind_told(tasks, word, rows)
                    value = (word, rows, {name: answer_table(levels, name) for name in tasks.names})
                    self.assertIs(is_levels_paper(tasks, value), False)
        self.assertGreater(min(words.values()), 10)
        self.assertGreater(locks, 10)

    def test_edges(self):
        self.assertEqual([levels_paper(NONE), levels_paper(NONE, least=True)], [("greatest", (), {}), ("least", (), {})])
        self.assertIs(is_levels_paper(NONE, ("greatest", (), {})) and is_levels_paper(NONE, ("least", (), {})), True)
        self.assertIs(is_levels_paper(NONE, ("none", (), "a", ())), False)
        self.assertEqual(levels_paper(ONE), ("greatest", (), {"a": (100, ((0, 100),))}))
        paper = levels_paper(ONE.changed("a", deadline=99))
        self.assertEqual(paper[:3], ("none", (), "a"))
        self.assertEqual([levels_paper(GREAT)[1], levels_paper(GREAT, least=True)[1]], [(), ()])
        self.assertEqual(levels_paper(CAR), ("greatest", (("log", "plan", SLOW),), TABLES))

    def test_a_section_alone_makes_all_levels_bad(self):
        paper = levels_paper(LOCKED)
        self.assertEqual((paper[0], paper[2]), ("none", "top"))
        self.assertTrue(is_levels_paper_told(LOCKED, paper))
        low = ((0, "low", 9), (2, "top", 2))
        steps = (("low", "top", ((0, "low", 9), (1, "top", 2))),)
        self.assertIs(is_levels_paper(LOCKED, ("none", steps, "top", low)), True)
        # The less urgent task has its urgency for its level in this run, also if no step has lowered it.
        self.assertIs(is_levels_paper(LOCKED, ("none", (), "top", low)), True)
        self.assertIs(is_levels_paper(LOCKED, ("none", (), "top", ((0, "low", 9), (1, "top", 2)))), False)
        self.assertIs(is_levels_paper(FREE, ("none", (), "top", low)), False)
        self.assertIs(is_levels_paper(FREE, ("none", steps, "top", low)), False)

    def test_steps_in_another_order_and_plans_with_more_jobs(self):
        luck = random.Random(130)
        other = 0
        for tasks in samples(60):
            paper = levels_paper(tasks)
            rows, levels = [], Levels.greatest(tasks)
            # Any steps, in any order, until there are none.
            while True:
                pairs = [(lower, upper) for lower in tasks.names for upper in tasks.above(lower) if tasks.urgency(upper) <= levels[lower]]
                luck.shuffle(pairs)
                for lower, upper in pairs:
                    lowered = Levels(tasks, *[levels[name] if name == lower or tasks.urgency(name) >= tasks.urgency(upper)
                                              else tasks.urgency(name) for name in tasks.names])
                    plan = shifted(tasks, worst_plan(lowered, upper), luck.randint(0, 5))
                    last = max([job[0] for job in plan])
                    more = tuple([(last + 1001, name, 1) for name in sorted((upper,) + tasks.above(upper))])
                    plan += luck.choice([(), more])
                    below = [job[1] for job in plan if tasks.urgency(job[1]) < tasks.urgency(upper)]
                    if below in ([], [lower]) and is_late_told(levels, upper, plan):
                        rows.append((lower, upper, plan))
                        levels = levels.with_level(lower, tasks.urgency(upper) - 1)
                        break
                else:
                    break
            if paper[0] == "greatest":
                self.assertEqual(levels, greatest_levels(tasks))
                self.assertIs(is_levels_paper(tasks, ("greatest", tuple(rows), paper[2])), True)
                other += len(rows) > len(paper[1])
                self.assertIs(is_levels_paper(tasks, ("greatest", tuple(rows[:-1]), paper[2])), not rows)
            else:
                self.assertIs(is_levels_paper(tasks, ("none", tuple(rows)) + paper[2:]),
                              is_levels_paper_told(tasks, ("none", tuple(rows)) + paper[2:]))
        self.assertGreater(other, 3)

    def test_greater_numbers_in_tables(self):
        steps = (("log", "plan", SLOW),)
        for table, right in (((40, ((9, 20),)), True), ((20, ((9, 40),)), True), ((20, ((9, 41),)), False), ((20, ((9, 21),)), False)):
            self.assertIs(is_levels_paper(CAR, ("greatest", steps, {**TABLES, "log": table})), right, table)
        self.assertIs(is_levels_paper(CAR, ("greatest", steps, dict(reversed(list(TABLES.items()))))), True)
        # Under the least levels they are tables of greater numbers.
        self.assertIs(is_levels_paper(CAR, ("least", (), TABLES)), True)

    def test_one_part_otherwise(self):
        luck = random.Random(131)
        found = {True: 0, False: 0}
        for tasks in samples(150):
            for paper in (levels_paper(tasks), levels_paper(tasks, least=True)):
                for _ in range(10):
                    value = altered(luck, tasks.names, paper)
                    told = is_levels_paper_told(tasks, value)
                    self.assertIs(is_levels_paper(tasks, value), told, (tasks.tasks, value))
                    found[told] += 1
        self.assertGreater(min(found.values()), 100)

    def test_steps_that_are_none(self):
        right = ("log", "plan", SLOW)
        for value in PLAIN + OWN + [
            ("log", "plan"), right + (1,), list(right), ("plan", "log", SLOW), ("log", "log", SLOW), ("plan", "brake", SLOW), ("plan", "steer", SLOW),
            ("log", "steer", SLOW), ("log", "brake", SLOW), ("x", "plan", SLOW), ("log", "x", SLOW), (["log"], "plan", SLOW), ("log", None, SLOW), ("log", "plan", ()),
            ("log", "plan", SLOW[1:]), ("log", "plan", list(SLOW)), ("log", "plan", SLOW[::-1]), ("log", "plan", SLOW + ((46, "log", 1),)),
        ]:
            self.assertIs(is_levels_paper(CAR, ("greatest", (value,), TABLES)), False, value)
        for value in NOT_PLANS:
            self.assertIs(is_levels_paper(CAR, ("greatest", (("log", "plan", value),), TABLES)), False, value)
            self.assertIs(is_levels_paper(TIGHT, ("none", (), "plan", value)), False, value)
        # A second step of the same pair is none: log does not hold off plan any more.
        self.assertIs(is_levels_paper(CAR, ("greatest", (right, right), TABLES)), False)
        # More steps than there need be: behind them are other levels.
        self.assertIs(is_levels_paper(TIGHT, ("none", (right,), "plan", FULL)), True)

    def test_raises(self):
        tasks = RISEN
        plan = ((0, "a", 4), (0, "b", 3), (6, "b", 3))
        self.assertEqual([least_levels(tasks).numbers, greatest_levels(tasks).numbers, Run(Levels.least(tasks), plan).late], [(1, 1), (1, 1), (0,)])
        tables = {"a": (10, ((3, 7),)), "b": (6, ((3, 6),))}
        right = ("a", plan)
        self.assertIs(is_levels_paper(tasks, ("least", (right,), tables)), True)
        self.assertIs(is_levels_paper(tasks, ("least", (("a", plan + ((40, "a", 1), (41, "b", 2))),), tables)), True)
        self.assertIs(is_levels_paper(tasks, ("greatest", (), tables)), True)
        for value in PLAIN + OWN + [
            ("a",), ("a", plan, 1), ["a", plan], (plan, "a"), ("b", plan), ("x", plan), (None, plan), (["a"], plan), ("a", ()), ("a", plan[1:]),
            ("a", plan[:2]), ("a", list(plan)), ("a", plan[::-1]), ("a", ((0, "a", 3),) + plan[1:]), ("a", ((0, "a", 4), (0, "b", 2)) + plan[2:]),
            ("a", "b", plan),
        ]:
            self.assertIs(is_levels_paper(tasks, ("least", (value,), tables)), False, value)
        self.assertIs(is_levels_paper(tasks, ("least", (right, right), tables)), False)
        # No level is raised beyond n - 1, also if a job is late there.
        for late, name, plan in ((ONE.changed("a", deadline=99), "a", ((0, "a", 100),)), (tasks.changed("b", deadline=2), "b", ((0, "b", 3),))):
            paper = ("least", ((name, plan),), {other: (1000, ((999, 1000),)) for other in late.names})
            self.assertEqual([greatest_levels(late), is_levels_paper(late, paper)], [None, False])
        self.assertIs(is_levels_paper(tasks, ("least", (), tables)), False)

    def test_other_values(self):
        steps = (("log", "plan", SLOW),)
        paper = ("greatest", steps, TABLES)
        for value in PLAIN + OWN + [
            paper[:2], paper + ((),), list(paper), ("least", steps, TABLES), ("none", steps, TABLES), ("none", steps, "log", SLOW), ("good", TABLES),
            ("none", steps, "plan", SLOW), ("greatest", TABLES, steps), ("greatest", list(steps), TABLES), ("greatest", steps[0], TABLES),
            ("greatest", steps, {name: TABLES[name] for name in ("log", "plan", "steer")}), ("greatest", steps, {**TABLES, "x": TABLES["log"]}),
            ("greatest", steps, tuple(TABLES.items())), ("greatest", steps, {}), ("greatest", steps, ()),
        ]:
            self.assertIs(is_levels_paper(CAR, value), False, value)
        none = ("none", (), "plan", FULL)
        for value in PLAIN + OWN:
            self.assertIs(is_levels_paper(CAR, (value,) + paper[1:]), False, value)
            self.assertIs(is_levels_paper(CAR, ("greatest", value, TABLES)), False, value)
            self.assertIs(is_levels_paper(CAR, ("greatest", steps, value)), False, value)
            self.assertIs(is_levels_paper(CAR, ("greatest", steps, {**TABLES, "log": value})), False, value)
            self.assertIs(is_levels_paper(TIGHT, (value,) + none[1:]), False, value)
            self.assertIs(is_levels_paper(TIGHT, ("none", (), value, FULL)), False, value)
            self.assertIs(is_levels_paper(TIGHT, ("none", (), "plan", value)), False, value)
            if value != ():
                self.assertIs(is_levels_paper(TIGHT, ("none", value, "plan", FULL)), False, value)
        self.assertIs(is_levels_paper(TIGHT, none), True)
        self.assertIs(is_levels_paper(TIGHT, ("none", (), "steer", FULL)), False)
        self.assertIs(is_levels_paper(CAR, none), False)

    def test_errors_in_order(self):
        for value in others(Tasks):
            fails(self, InvalidTasks, levels_paper, value)
            fails(self, InvalidTasks, levels_paper, value, least=None)
            fails(self, InvalidTasks, is_levels_paper, value, None)
        for value in others(bool):
            for tasks in (CAR, TIGHT):
                fails(self, InvalidOperation, levels_paper, tasks, least=value)

    def test_nothing_that_is_passed_or_returned_is_state(self):
        paper = levels_paper(CAR)
        paper[2]["log"] = None
        del paper[2]["plan"]
        self.assertEqual(levels_paper(CAR)[2], TABLES)
        tables = {name: TABLES[name] for name in ("steer", "log", "brake", "plan")}
        self.assertIs(is_levels_paper(CAR, ("greatest", (("log", "plan", SLOW),), tables)), True)
        self.assertEqual(list(tables), ["steer", "log", "brake", "plan"])
        kept = fails(self, NoLevels, must_interrupt, TIGHT, "log", "plan").paper
        self.assertEqual(kept, levels_paper(TIGHT))
        self.assertEqual(some_levels(random.Random(0), CAR).tasks, CAR)


if __name__ == "__main__":
    unittest.main()
