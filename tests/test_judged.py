"""0.13, 0.18, 0.19, 12.1 to 12.3 and stage 12: judged levels."""

import random
import unittest

from holdlevels.answers.worst import answer_table
from holdlevels.errors import InvalidLevels
from holdlevels.good.judged import faults, is_good, is_state_paper, state_paper
from holdlevels.good.tolerances import tolerance
from holdlevels.runs.plans import shifted
from holdlevels.runs.runs import Run
from holdlevels.tasks.levels import Levels, all_levels
from holdlevels.tasks.tasks import make_task
from holdlevels.tasks.tasksets import Tasks
from tests.papers import altered, are_good_told, is_state_paper_told, late_names, tight_tasks
from tests.reference import busy_tasks, full_plan, held_off, locked_tasks, some_levels, some_tasks
from tests.samples import BEST, CAR, NONE, NOT_PLANS, OWN, PLAIN, fails, others

TABLES = {"brake": (5, ((3, 5),)), "log": (20, ((9, 20),)), "plan": (9, ((5, 9),)), "steer": (8, ((5, 8),))}
LATE = Levels(CAR, 1, 3, 3, 3)
SLOW = ((0, "log", 6), (1, "brake", 2), (1, "plan", 4), (1, "steer", 3), (11, "brake", 2), (13, "steer", 3))


def samples(many):
    luck = random.Random(12)
    for _ in range(many):
        tasks = tight_tasks(luck, luck.choice([some_tasks, busy_tasks, busy_tasks])(luck))
        yield some_levels(luck, tasks)


class JudgedTest(unittest.TestCase):
    def test_examples(self):
        self.assertEqual([is_good(BEST), list(faults(LATE))], [True, [("plan", "log", None, 5)]])
        self.assertEqual([is_state_paper(BEST, ("good", TABLES)), state_paper(LATE)[:2]], [True, ("late", "plan")])

    def test_good_as_told(self):
        found = {True: 0, False: 0}
        for levels in samples(300):
            good = are_good_told(levels)
            self.assertIs(is_good(levels), good)
            found[good] += 1
        self.assertGreater(min(found.values()), 60)

    def test_no_job_is_late_under_good_levels(self):
        luck = random.Random(120)
        for levels in samples(200):
            if is_good(levels):
                self.assertEqual(Run(levels, full_plan(luck, levels.tasks, 150)).late, ())

    def test_faults_as_told(self):
        luck = random.Random(122)
        locks = 0
        for levels in [*samples(200), *[some_levels(luck, locked_tasks(luck)) for _ in range(200)]]:
            tasks = levels.tasks
            rows = []
            for name in tasks.names:
                borne = tolerance(tasks, name, levels[name])
                if borne is None:
                    rows.append((name, None, None, 0))
                else:
                    more = {(tasks.urgency(lower), lock is not None, lock or "", ticks)
                            for ticks, lower, lock in held_off(levels, name) if ticks > borne}
                    rows += [(name, tasks.names[lower], lock or None, ticks) for lower, _, lock, ticks in sorted(more)]
            self.assertEqual(list(faults(levels)), rows)
            self.assertIs(is_good(levels), not rows)
            locks += len([row for row in rows if row[2] is not None])
        self.assertGreater(locks, 20)

    def test_faults_of_all_kinds_in_order(self):
        tasks = Tasks(
            make_task("z", 9, 100, (0, 3, "y"), (3, 6, "y"), (6, 8, "y"), deadline=90), make_task("a", 8, 100, (0, 4, "x"), (4, 7, "b"), deadline=90),
            make_task("c", 3, 100, (0, 1, "x"), (1, 2, "b"), deadline=4), make_task("d", 3, 100, (0, 1, "y"), deadline=3),
            make_task("e", 3, 100, deadline=2),
        )
        levels = Levels(tasks, 4, 3, 3, 3, 4)
        right = [
            ("c", None, None, 0), ("d", "z", None, 8), ("d", "z", "y", 1), ("d", "z", "y", 2), ("d", "a", None, 7), ("d", "c", None, 2),
            ("e", None, None, 0),
        ]
        self.assertEqual(list(faults(levels)), [right[0], ("d", None, None, 0), right[-1]])
        tasks = tasks.without("e").changed("d", deadline=3)
        self.assertEqual(list(faults(Levels(tasks, 3, 3, 3, 3))), [("c", None, None, 0)] + right[1:6])
        tasks = tasks.changed("c", deadline=6)
        rows = [("c", "z", None, 8), ("c", "z", "y", 1), ("c", "z", "y", 2), ("c", "a", None, 7), ("c", "a", "b", 2), ("c", "a", "x", 3)]
        self.assertEqual(list(faults(Levels(tasks, 3, 3, 3, 3))), rows + right[1:6])
        self.assertEqual(list(faults(Levels(tasks, 0, 1, 2, 3))), rows[1:3] + rows[4:] + right[2:4])
        # A delay that is just borne is no fault.
        tasks = tasks.changed("c", deadline=9).changed("d", deadline=5)
        self.assertEqual(list(faults(Levels(tasks, 0, 1, 2, 3))), [])
        tasks = tasks.changed("c", deadline=8)
        self.assertEqual(list(faults(Levels(tasks, 0, 1, 2, 3))), [("c", "a", "x", 3)])

    def test_not_true(self):
        # Good levels need not stay good if one is lowered or raised, and not all between good ones are good.
        rows = []
        for levels in samples(150):
            tasks = levels.tasks
            good = [other for other in all_levels(tasks) if are_good_told(other)]
            bad = [other for other in all_levels(tasks) if not are_good_told(other)]
            rows.append(any([low.is_within(other) and other.is_within(high) for low in good for other in bad for high in good]))
            for one in good:
                for two in good:
                    self.assertIs(is_good(one | two), True)
                    self.assertIs(is_good(one & two), True)
        self.assertGreater(rows.count(True), 0)

    def test_no_tasks_and_the_greatest_numbers(self):
        self.assertEqual([is_good(Levels(NONE)), list(faults(Levels(NONE))), state_paper(Levels(NONE))], [True, [], ("good", {})])
        self.assertIs(is_state_paper(Levels(NONE), ("good", {})), True)
        self.assertIs(is_state_paper(Levels(NONE), ("late", "a", ())), False)
        tasks = Tasks(*[make_task(name, 100, 1000, deadline=20000) for name in "ihgfedcba"])
        for levels in (Levels.greatest(tasks), Levels.least(tasks)):
            self.assertEqual([is_good(levels), list(faults(levels)), state_paper(levels)[0]], [True, [], "good"])
            self.assertIs(is_state_paper(levels, state_paper(levels)), True)
        one = Tasks(make_task("a", 100, 1000, deadline=99))
        self.assertEqual([is_good(Levels(one, 0)), list(faults(Levels(one, 0)))], [False, [("a", None, None, 0)]])

    def test_faults_is_a_generator(self):
        found = faults(LATE)
        self.assertIs(iter(found), found)
        self.assertEqual([next(found), list(found)], [("plan", "log", None, 5), []])

    def test_errors(self):
        for value in others(Levels):
            fails(self, InvalidLevels, is_good, value)
            fails(self, InvalidLevels, state_paper, value)
            fails(self, InvalidLevels, is_state_paper, value, None)
            found = faults(value)
            fails(self, InvalidLevels, next, found)


class StatePaperTest(unittest.TestCase):
    def test_papers_of_just_one_kind(self):
        for levels in samples(150):
            tasks = levels.tasks
            paper = state_paper(levels)
            self.assertIs(is_state_paper(levels, paper), True)
            self.assertTrue(is_state_paper_told(levels, paper))
            if are_good_told(levels):
                self.assertEqual((paper[0], list(paper[1])), ("good", sorted(tasks.names)))
                self.assertEqual(len(paper), 2)
            else:
                self.assertEqual((paper[0], len(paper)), ("late", 3))
                self.assertIn(paper[1], late_names(levels, paper[2]))
                # Tables of least numbers show more than the deadline of some task then.
                self.assertIs(is_state_paper(levels, ("good", {name: answer_table(levels, name) for name in tasks.names})), False)

    def test_whoever_made_it(self):
        self.assertIs(is_state_paper(BEST, ("good", {name: TABLES[name] for name in ("steer", "log", "brake", "plan")})), True)
        self.assertIs(is_state_paper(BEST, ("good", {**TABLES, "log": (29, ((9, 40),))})), True)
        self.assertIs(is_state_paper(BEST, ("good", {**TABLES, "log": (29, ((9, 41),))})), False)
        levels = Levels.greatest(CAR)
        for plan in (SLOW, shifted(CAR, SLOW, 19000), SLOW + ((21, "plan", 4), (60, "log", 1)), ((0, "log", 6), (1, "brake", 2))):
            for name in CAR.names:
                self.assertIs(is_state_paper(levels, ("late", name, plan)), name in late_names(levels, plan), (name, plan))
        # A plan with several less urgent jobs is as good here.
        plan = ((0, "plan", 4), (1, "brake", 2), (6, "log", 6), (15, "brake", 2), (46, "log", 6), (47, "brake", 2))
        self.assertEqual(late_names(levels, plan), {"brake"})
        self.assertIs(is_state_paper(levels, ("late", "brake", plan)), True)
        self.assertIs(is_state_paper(BEST, ("late", "brake", plan)), False)

    def test_one_part_otherwise(self):
        luck = random.Random(121)
        found = {True: 0, False: 0}
        for levels in samples(250):
            paper = state_paper(levels)
            for _ in range(8):
                value = altered(luck, levels.tasks.names, paper)
                told = is_state_paper_told(levels, value)
                self.assertIs(is_state_paper(levels, value), told, (levels.tasks.tasks, levels.numbers, value))
                found[told] += 1
        self.assertGreater(min(found.values()), 100)

    def test_other_values(self):
        late = state_paper(LATE)
        for value in PLAIN + OWN + [
            ("good",), ("good", TABLES, ()), ["good", TABLES], ("late", TABLES), ("none", TABLES), ("greatest", TABLES), (TABLES, "good"),
            ("good", ()), ("good", {}), ("good", list(TABLES)), ("good", tuple(TABLES.items())),
            ("good", {name: TABLES[name] for name in ("brake", "log", "plan")}), ("good", {**TABLES, "x": TABLES["log"]}),
            ("good", {**TABLES, None: ()}), ("good", {"x": (5, ((3, 5),)), "log": (20, ((9, 20),)), "plan": (9, ((5, 9),)), "steer": (8, ((5, 8),))}),
        ]:
            self.assertIs(is_state_paper(BEST, value), False, value)
        for value in PLAIN + OWN:
            self.assertIs(is_state_paper(BEST, (value, TABLES)), False, value)
            self.assertIs(is_state_paper(BEST, ("good", value)), False, value)
            self.assertIs(is_state_paper(BEST, ("good", {**TABLES, "log": value})), False, value)
            self.assertIs(is_state_paper(LATE, (value,) + late[1:]), False, value)
            self.assertIs(is_state_paper(LATE, ("late", value, late[2])), False, value)
            self.assertIs(is_state_paper(LATE, ("late", "plan", value)), False, value)
            self.assertIs(is_state_paper(LATE, late + (value,)), False, value)
        for value in NOT_PLANS:
            self.assertIs(is_state_paper(LATE, ("late", "plan", value)), False, value)

    def test_changing_a_paper_changes_no_later_one(self):
        paper = state_paper(BEST)
        self.assertEqual(paper[1], TABLES)
        del paper[1]["log"]
        self.assertEqual(state_paper(BEST)[1], TABLES)
        before = {**TABLES}
        is_state_paper(BEST, ("good", TABLES))
        self.assertEqual(list(TABLES.items()), list(before.items()))


if __name__ == "__main__":
    unittest.main()
