"""0.13, 0.16, 0.18, 9.1, 9.2 and stage 9: delays, worst answers, and tables."""

import random
import unittest

from holdlevels.answers.rounds import answers_by, round_length, start_time
from holdlevels.answers.worst import answer_table, delay, delayers, is_answer_table, shown_by, worst_answer, worst_answers
from holdlevels.answers.worst import worst_job
from holdlevels.errors import InvalidLevels, InvalidOperation, UnknownName
from holdlevels.runs.runs import Run
from holdlevels.tasks.levels import Levels, all_levels
from holdlevels.tasks.tasks import make_task
from holdlevels.tasks.tasksets import Tasks
from tests.reference import busy_tasks, delay_told, full_plan, held_off, is_table_told, plan_told, shown_told, some_levels
from tests.reference import some_plan, some_tasks, table_told, worst_told
from tests.samples import BEST, CAR, NONE, OWN, PLAIN, fails, others

PUSH = Levels(Tasks(make_task("draw", 4, 9, deadline=16), make_task("note", 6, 15), make_task("page", 5, 100)), 2, 1, 2)
GREAT = Tasks(*[make_task(name, 100, 1000) for name in "ihgfedcba"])
ROWS = (20, ((9, 20),))


def samples(many):
    luck = random.Random(9)
    for _ in range(many):
        tasks = luck.choice([some_tasks, busy_tasks])(luck)
        yield luck.choice([Levels.greatest(tasks), some_levels(luck, tasks)])


class DelayTest(unittest.TestCase):
    def test_examples(self):
        found = [delay(BEST, "steer"), delayers(BEST, "steer"), delayers(Levels.least(CAR), "steer"), delayers(BEST, "plan")]
        self.assertEqual(found, [3, (("plan", None),), (("plan", "map"),), ()])

    def test_as_told(self):
        kinds = set()
        for levels in samples(400):
            names = levels.tasks.names
            for name in names:
                held = delay_told(levels, name)
                self.assertEqual(delay(levels, name), held)
                rows = {(lower, lock) for ticks, lower, lock in held_off(levels, name) if ticks == held > 0}
                right = sorted(rows, key=lambda row: (names.index(row[0]), row[1] is not None, row[1] or ""))
                self.assertEqual(delayers(levels, name), tuple(right))
                kinds.add(tuple(sorted({lock is None for _, lock in rows})))
        self.assertEqual(kinds, {(), (False,), (True,), (False, True)})

    def test_from_a_longest_run_from_a_section_and_from_both(self):
        tasks = Tasks(
            make_task("z", 5, 90), make_task("b", 9, 90, (0, 5, "y"), (5, 8, "x")), make_task("a", 7, 90, (0, 5, "y"), (5, 6, "x")),
            make_task("c", 2, 90, (0, 1, "x")), make_task("d", 2, 90, (0, 1, "y")),
        )
        numbers = {
            (4, 1, 2, 3, 4): (4, (("z", None), ("b", "y"), ("a", "y"))),
            (0, 1, 2, 3, 4): (4, (("b", "y"), ("a", "y"))),
            (0, 1, 4, 3, 4): (6, (("a", None),)),
            (4, 3, 4, 3, 4): (6, (("a", None),)),
            (0, 4, 4, 3, 4): (8, (("b", None),)),
        }
        for row, (held, rows) in numbers.items():
            levels = Levels(tasks, *row)
            self.assertEqual([delay(levels, "d"), delayers(levels, "d")], [held, rows], row)
        levels = Levels(tasks, 3, 1, 2, 3, 4)
        self.assertEqual([delay(levels, "c"), delayers(levels, "c")], [4, (("z", None), ("b", "y"), ("a", "y"))])
        # Two locks, and a level, of one task with equal ticks; of one lock the greatest section counts, once.
        tasks = Tasks(
            make_task("low", 5, 90, (0, 1, "y"), (1, 2, "y"), (2, 4, "x")), make_task("mid", 2, 90, (0, 1, "y")),
            make_task("top", 2, 90, (0, 1, "x")),
        )
        levels = Levels(tasks, 1, 1, 2)
        self.assertEqual([delay(levels, "mid"), delayers(levels, "mid")], [4, (("low", None),)])
        self.assertEqual([delay(levels, "top"), delayers(levels, "top")], [1, (("low", "x"),)])
        levels = Levels(tasks, 0, 2, 2)
        self.assertEqual([delay(levels, "top"), delayers(levels, "top")], [1, (("low", "x"), ("mid", None))])
        both = Tasks(make_task("low", 3, 90, (0, 2, "y")), make_task("top", 2, 90, (0, 1, "y")))
        self.assertEqual(delayers(Levels(both, 0, 1), "top"), (("low", "y"),))
        same = Tasks(
            make_task("low", 8, 90, (0, 3, "y"), (3, 6, "y"), (6, 7, "x")), make_task("top", 4, 90, (0, 1, "y"), (1, 2, "x")),
        )
        self.assertEqual(delayers(Levels(same, 0, 1), "top"), (("low", "y"),))

    def test_no_delay(self):
        tasks = Tasks(make_task("low", 1, 90), make_task("mid", 6, 90, (0, 1, "x"), (1, 2, "x")), make_task("top", 2, 90, (0, 1, "x")))
        for name in tasks.names:
            self.assertEqual([delay(Levels(tasks, 2, 1, 2), name), delayers(Levels(tasks, 2, 1, 2), name)], [0, ()])
        self.assertEqual([delay(BEST, "log"), delayers(BEST, "log")], [0, ()])
        self.assertEqual([delay(Levels.greatest(GREAT), name) for name in GREAT.names], [0] + [99] * 8)

    def test_the_lock_of_a_less_urgent_task_counts_at_its_ceiling(self):
        tasks = Tasks(make_task("low", 9, 90, (0, 8, "x")), make_task("mid", 4, 90, (0, 2, "x")), make_task("top", 2, 90))
        self.assertEqual([delay(Levels.least(tasks), name) for name in tasks.names], [0, 7, 0])


class WorstAnswerTest(unittest.TestCase):
    def test_examples(self):
        found = [
            worst_answers(BEST), answer_table(BEST, "log"), is_answer_table(BEST, "brake", (7, ((4, 6),))),
            shown_by(BEST, "brake", (7, ((4, 6),))),
        ]
        self.assertEqual(found, [{"brake": 5, "log": 20, "plan": 9, "steer": 8}, (20, ((9, 20),)), True, 6])
        table = (43, ((11, 15), (21, 25), (25, 29), (29, 33), (39, 43)))
        self.assertEqual([answer_table(PUSH, "draw"), worst_answer(PUSH, "draw"), worst_job(PUSH, "draw")], [table, 16, 1])

    def test_as_told(self):
        later = 0
        for levels in samples(800):
            tasks = levels.tasks
            for name in tasks.names:
                table = table_told(tasks, name, levels[name], delay_told(levels, name))
                self.assertEqual(answer_table(levels, name), table)
                worst = shown_told(tasks, name, table)
                self.assertEqual(worst_answer(levels, name), worst)
                answers = [end - k * tasks[name][2] for k, (_, end) in enumerate(table[1])]
                self.assertEqual(worst_job(levels, name), answers.index(worst))
                later += answers.index(worst) > 0
        self.assertGreater(later, 3)

    def test_keys_are_ascending(self):
        self.assertEqual(list(worst_answers(BEST)), ["brake", "log", "plan", "steer"])
        self.assertEqual(list(worst_answers(Levels.greatest(GREAT))), list("abcdefghi"))
        self.assertEqual(worst_answers(Levels(NONE)), {})
        found = worst_answers(BEST)
        found["log"] = 0
        del found["brake"]
        self.assertEqual(worst_answers(BEST), {"brake": 5, "log": 20, "plan": 9, "steer": 8})

    def test_no_job_in_any_run_has_a_greater_answer(self):
        luck = random.Random(90)
        reached = 0
        for levels in samples(300):
            worst = worst_answers(levels)
            for plan in (full_plan(luck, levels.tasks, 150), some_plan(luck, levels.tasks)):
                run = Run(levels, plan)
                for job, answer in zip(plan, run.answers):
                    self.assertLessEqual(answer, worst[job[1]], (levels.tasks.tasks, levels.numbers, plan))
                    reached += answer == worst[job[1]]
        self.assertGreater(reached, 1000)

    def test_some_run_reaches_it(self):
        for levels in samples(200):
            for name in levels.tasks.names:
                plan = plan_told(levels, name)
                answers = [answer for job, answer in zip(plan, Run(levels, plan).answers) if job[1] == name]
                self.assertEqual(max(answers), worst_answer(levels, name))
                self.assertEqual(answers.index(max(answers)), worst_job(levels, name))

    def test_it_depends_on_the_own_level_and_the_delay_alone(self):
        luck = random.Random(91)
        for _ in range(40):
            tasks = busy_tasks(luck)
            seen = {}
            for levels in all_levels(tasks):
                for name in tasks.names:
                    key = (name, levels[name], delay(levels, name))
                    found = worst_answer(levels, name)
                    self.assertEqual(seen.setdefault(key, found), found)
                    self.assertEqual(max(list(answers_by(tasks, name, levels[name], delay=key[2]))), found)
            for one, worst in seen.items():
                for other, found in seen.items():
                    if one[0] == other[0] and one[1] <= other[1] and one[2] >= other[2]:
                        self.assertGreaterEqual(worst, found)

    def test_ten_tasks_with_the_greatest_numbers(self):
        levels = Levels.greatest(GREAT)
        self.assertEqual(worst_answers(levels), {name: worst_told(levels, name) for name in "abcdefghi"})
        self.assertEqual(worst_answers(levels)["a"], 199)
        self.assertEqual(worst_answers(levels)["i"], 900)
        long = Tasks(make_task("low", 1, 2), *[make_task(name, 40, 900) for name in "bcdefghij"])
        for levels, answer in ((Levels.greatest(long), 79), (Levels.least(long), 40)):
            self.assertEqual(answer_table(levels, "low"), table_told(long, "low", levels["low"], 0))
            self.assertEqual(worst_answer(levels, "j"), answer)

    def test_levels_equal_to_the_urgency_and_to_the_greatest(self):
        self.assertEqual(worst_answers(Levels.least(CAR)), {"brake": 2, "log": 20, "plan": 9, "steer": 6})
        self.assertEqual(worst_answers(Levels.greatest(CAR)), {"brake": 7, "log": 15, "plan": 19, "steer": 10})

    def test_tables_and_stage_8(self):
        for levels in samples(100):
            for name in levels.tasks.names:
                held = delay(levels, name)
                length, pairs = answer_table(levels, name)
                self.assertEqual(length, round_length(levels.tasks, name, delay=held))
                self.assertEqual(pairs[-1][0], start_time(levels.tasks, name, len(pairs) - 1, delay=held))


class TableTest(unittest.TestCase):
    def test_least_numbers_are_least(self):
        for levels in samples(100):
            for name in levels.tasks.names:
                length, pairs = answer_table(levels, name)
                self.assertIs(is_answer_table(levels, name, (length, pairs)), True)
                self.assertEqual(shown_by(levels, name, (length, pairs)), worst_answer(levels, name))
                self.assertIs(is_answer_table(levels, name, (length - 1, pairs)), False)
                for at, (start, end) in enumerate(pairs):
                    for pair in ((start - 1, end), (start, end - 1)):
                        self.assertIs(is_answer_table(levels, name, (length, pairs[:at] + (pair,) + pairs[at + 1:])), False)
                self.assertIs(is_answer_table(levels, name, (length, pairs[:-1])), False)
                self.assertIs(is_answer_table(levels, name, (length, pairs + pairs[-1:])), False)

    def test_other_numbers_as_told(self):
        luck = random.Random(92)
        right = 0
        for levels in samples(300):
            for name in levels.tasks.names:
                length, pairs = answer_table(levels, name)
                gap = levels.tasks[name][2]
                for _ in range(5):
                    longer = max(length + luck.choice([0, 0, 1, 2, luck.randint(0, 100)]), 1)
                    rows = list(pairs)
                    while len(rows) < len(range(0, longer, gap)):
                        rows.append((rows[-1][0] + luck.randint(0, 2 * gap), rows[-1][1] + luck.randint(0, 2 * gap)))
                    rows = [(max(start + luck.choice([0, 0, 0, 1, 7, -1]), 0), max(end + luck.choice([0, 0, 0, 1, 7, 30, -1]), 0))
                            for start, end in rows]
                    value = (longer, tuple(rows))
                    told = is_table_told(levels, name, value)
                    self.assertIs(is_answer_table(levels, name, value), told, (levels.tasks.tasks, levels.numbers, name, value))
                    if told:
                        right += 1
                        shown = max([end - k * gap for k, (_, end) in enumerate(rows)])
                        self.assertEqual(shown_by(levels, name, value), shown)
                        self.assertGreaterEqual(shown, worst_answer(levels, name))
                    else:
                        fails(self, InvalidOperation, shown_by, levels, name, value)
        self.assertGreater(right, 500)

    def test_greater_numbers(self):
        for value in ((20, ((9, 20),)), (29, ((9, 20),)), (40, ((9, 20),)), (20, ((11, 20),)), (20, ((9, 29),)), (20, ((9, 10 ** 39),))):
            self.assertIs(is_answer_table(BEST, "log", value), True, value)
        # At 21 there is more to do for the round and for the end, at 10 more for the start.
        for value in ((21, ((9, 20),)), (20, ((9, 21),)), (20, ((9, 26),)), (20, ((10, 20),)), (41, ((9, 20),)), (46, ((9, 20),)), (10 ** 39, ((9, 20),))):
            self.assertIs(is_answer_table(BEST, "log", value), False, value)
        self.assertEqual(shown_by(BEST, "log", (20, ((9, 10 ** 39),))), 10 ** 39)
        # A round of more than 40 has two jobs of log.
        self.assertIs(is_answer_table(BEST, "log", (46, ((9, 20), (29, 40)))), True)
        self.assertEqual(shown_by(BEST, "log", (46, ((9, 20), (29, 40)))), 20)
        self.assertEqual(shown_by(BEST, "log", (46, ((9, 20), (29, 63)))), 23)
        # An end must leave time for all that comes before it: 8 is enough, 10 as well, but 11 is behind a job of brake.
        levels = Levels(Tasks(make_task("log", 6, 40), make_task("brake", 2, 10)), 0, 1)
        found = [is_answer_table(levels, "log", (8, ((2, end),))) for end in range(7, 13)]
        self.assertEqual(found, [False, True, True, True, True, True])
        levels = Levels(Tasks(make_task("log", 8, 40), make_task("brake", 2, 10)), 0, 1)
        found = [is_answer_table(levels, "log", (10, ((2, end),))) for end in range(9, 14)]
        self.assertEqual(found, [False, True, False, True, True])
        found = [is_answer_table(levels, "log", (10, ((start, 30),))) for start in (1, 2, 9, 10, 11)]
        self.assertEqual(found, [False, True, True, True, True])
        found = [is_answer_table(levels, "log", (length, ((2, 10),))) for length in (9, 10, 11, 12, 40)]
        self.assertEqual(found, [False, True, False, True, True])

    def test_one_part_of_another_kind(self):
        for value in others(tuple) + [
            (), (20,), ROWS + (1,), [20, ROWS[1]], ROWS[::-1], (20, list(ROWS[1])), (20, ([9, 20],)), (20, ((9, 20, 1),)),
            (20, ((9,),)), (20, (9, 20)), (20, {(9, 20): True}), (20, ()), (20, ((9, 20), (9, 20))), (None, ROWS[1]),
            (True, ROWS[1]), ("20", ROWS[1]), (0, ROWS[1]), (0, ()), (-20, ROWS[1]), (-20, ()), (20, ((None, 20),)),
            (20, ((9, None),)), (20, ((9, "20"),)), (20, (("9", 20),)), (20, ((9, True),)), (20, ((9, (20,)),)), (20, ((-9, 20),)),
            (20, ((9, -20),)), (20, ((9, CAR),)), (20, (BEST,)), (BEST, ROWS[1]), (20, "ab"), (20, None), (20, 9),
        ]:
            self.assertIs(is_answer_table(BEST, "log", value), False, value)
            fails(self, InvalidOperation, shown_by, BEST, "log", value)
        for value in PLAIN + OWN:
            self.assertIs(is_answer_table(BEST, "log", value), False, value)
            self.assertIs(is_answer_table(BEST, "log", (value, ROWS[1])), False, value)
            self.assertIs(is_answer_table(BEST, "log", (20, value)), False, value)
            self.assertIs(is_answer_table(BEST, "log", (20, (value,))), False, value)

    def test_true_is_no_number(self):
        tasks = Tasks(make_task("a", 1, 5))
        levels = Levels(tasks, 0)
        self.assertIs(is_answer_table(levels, "a", (1, ((0, 1),))), True)
        for value in ((True, ((0, 1),)), (1, ((False, 1),)), (1, ((0, True),))):
            self.assertIs(is_answer_table(levels, "a", value), False, value)


class ErrorTest(unittest.TestCase):
    CALLS = (delay, delayers, worst_answer, worst_job, answer_table)

    def test_levels_then_the_name(self):
        for value in others(Levels) + [CAR.tasks, BEST.numbers]:
            for call in self.CALLS:
                fails(self, InvalidLevels, call, value, None)
            fails(self, InvalidLevels, worst_answers, value)
            fails(self, InvalidLevels, is_answer_table, value, None, None)
            fails(self, InvalidLevels, shown_by, value, None, None)
        for value in PLAIN + OWN:
            for call in self.CALLS:
                fails(self, UnknownName, call, BEST, value, keeps=("name", value))
            fails(self, UnknownName, is_answer_table, BEST, value, ROWS, keeps=("name", value))
            fails(self, UnknownName, shown_by, BEST, value, None, keeps=("name", value))
        fails(self, UnknownName, delay, Levels(NONE), "log", keeps=("name", "log"))


if __name__ == "__main__":
    unittest.main()
