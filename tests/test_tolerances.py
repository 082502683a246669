"""11.1, 11.2 and stage 11: tolerances."""

import random
import unittest

from holdlevels.answers.rounds import answers_by
from holdlevels.answers.worst import delay
from holdlevels.errors import InvalidNumber, InvalidTasks, UnknownName
from holdlevels.good.tolerances import least_level, tolerance, tolerances
from holdlevels.tasks.levels import all_levels
from holdlevels.tasks.tasks import make_task
from holdlevels.tasks.tasksets import Tasks
from tests.papers import are_good_told, tight_tasks
from tests.reference import busy_tasks, shown_told, some_tasks, table_told
from tests.samples import CAR, NONE, NOT_NUMBERS, OWN, PLAIN, fails, others

GREAT = Tasks(*[make_task(name, 100, 1000, deadline=20000) for name in "ihgfedcba"])


def samples(many):
    luck = random.Random(11)
    for _ in range(many):
        yield tight_tasks(luck, luck.choice([some_tasks, busy_tasks, busy_tasks])(luck))


def tolerance_told(tasks, name, level):
    """Return the tolerance by asking for all delays."""
    borne = [held for held in range(100) if max(list(answers_by(tasks, name, level, delay=held))) <= tasks[name][3]]
    return borne[-1] if borne else None


class ToleranceTest(unittest.TestCase):
    def test_examples(self):
        found = [tolerances(CAR), least_level(CAR, "plan", 3), least_level(CAR, "brake", 4)]
        self.assertEqual(found, [{"brake": (3,), "log": (6, 6, 9, 9), "plan": (2, 4, 4), "steer": (5, 6)}, 2, None])
        found = [list(answers_by(CAR, "steer", 3, delay=6)), list(answers_by(CAR, "steer", 3, delay=7))]
        self.assertEqual(found, [[11, 4], [12, 5]])
        self.assertEqual([tolerance(CAR, "log", level) for level in range(4)], [6, 6, 9, 9])

    def test_as_told(self):
        none = 0
        for tasks in samples(60):
            found = tolerances(tasks)
            self.assertEqual(list(found), sorted(tasks.names))
            for name in tasks.names:
                row = tuple([tolerance_told(tasks, name, level) for level in range(tasks.urgency(name), len(tasks))])
                self.assertEqual(found[name], row, (tasks.tasks, name))
                self.assertEqual(tuple([tolerance(tasks, name, tasks.urgency(name) + at) for at in range(len(row))]), row)
                numbers = [-1 if number is None else number for number in row]
                self.assertEqual(numbers, sorted(numbers))
                none += None in row
                for held in {0, 1, 99, *[number for number in numbers if number >= 0], *[number + 1 for number in numbers if number < 99]}:
                    least = [tasks.urgency(name) + at for at, number in enumerate(numbers) if number >= held]
                    self.assertEqual(least_level(tasks, name, held), least[0] if least else None)
        self.assertGreater(none, 10)

    def test_some_table_shows_at_most_the_deadline(self):
        for tasks in samples(60):
            for name in tasks.names:
                level = tasks.urgency(name)
                held = tolerance(tasks, name, level)
                if held is None:
                    self.assertGreater(shown_told(tasks, name, table_told(tasks, name, level, 0)), tasks[name][3])
                else:
                    self.assertLessEqual(shown_told(tasks, name, table_told(tasks, name, level, held)), tasks[name][3])

    def test_levels_are_good_if_no_delay_is_greater(self):
        for tasks in samples(40):
            rows = tolerances(tasks)
            for levels in all_levels(tasks):
                borne = {name: rows[name][levels[name] - tasks.urgency(name)] for name in tasks.names}
                good = all([borne[name] is not None and delay(levels, name) <= borne[name] for name in tasks.names])
                self.assertIs(good, are_good_told(levels))

    def test_the_delays_0_and_99(self):
        for deadline, borne in ((1, None), (2, 0), (3, 1), (100, 98), (101, 99), (102, 99), (20000, 99)):
            tasks = Tasks(make_task("a", 2, 1000, deadline=deadline))
            self.assertEqual([tolerance(tasks, "a", 0), tolerances(tasks)], [borne, {"a": (borne,)}])
            found = [least_level(tasks, "a", held) for held in (0, 99)]
            self.assertEqual(found, [0 if deadline >= 2 else None, 0 if deadline >= 101 else None])

    def test_it_hangs_on_the_task_and_on_more_urgent_ones_alone(self):
        luck = random.Random(110)
        for tasks in samples(40):
            at = luck.randrange(len(tasks))
            name = tasks.names[at]
            row = tolerances(tasks)[name]
            self.assertEqual(tolerances(tasks.only(name, *tasks.above(name)))[name], row)
            for other in tasks.names:
                if other != name:
                    tasks = tasks.changed(other, deadline=luck.randint(1, 20000), room=luck.randint(0, 10 ** 6))
                tasks = tasks.replaced(tasks[other][:5] + (luck.choice([tasks[other][5], ()]),))
            self.assertEqual(tolerances(tasks)[name], row)

    def test_a_longer_deadline_need_not_tolerate_more(self):
        tasks = Tasks(make_task("a", 9, 100, deadline=12), make_task("b", 2, 100, deadline=6))
        self.assertEqual(tolerances(tasks), {"a": (1, 1), "b": (4,)})

    def test_empty_and_great(self):
        self.assertEqual(tolerances(NONE), {})
        self.assertEqual(tolerances(GREAT), {name: (99,) * (at + 1) for at, name in enumerate("abcdefghi")})
        self.assertEqual(least_level(GREAT, "i", 99), 0)
        found = tolerances(CAR)
        found["log"] = None
        self.assertEqual(tolerances(CAR)["log"], (6, 6, 9, 9))


class ErrorTest(unittest.TestCase):
    def test_errors_in_order(self):
        for value in others(Tasks):
            fails(self, InvalidTasks, tolerance, value, None, None)
            fails(self, InvalidTasks, tolerances, value)
            fails(self, InvalidTasks, least_level, value, None, None)
        for value in PLAIN + OWN:
            fails(self, UnknownName, tolerance, CAR, value, None, keeps=("name", value))
            fails(self, UnknownName, least_level, CAR, value, None, keeps=("name", value))
        for value in NOT_NUMBERS + [-1, 0, 4, 10 ** 39]:
            fails(self, InvalidNumber, tolerance, CAR, "plan", value, keeps=("value", value))
        for value in NOT_NUMBERS + [-1, 100, 10 ** 39]:
            fails(self, InvalidNumber, least_level, CAR, "plan", value, keeps=("value", value))


if __name__ == "__main__":
    unittest.main()
