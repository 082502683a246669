"""8.1 to 8.3 and stage 8: rounds, starts and ends."""

import random
import unittest

from holdlevels.answers.rounds import answers_by, end_time, round_length, start_time
from holdlevels.errors import InvalidNumber, InvalidTasks, UnknownName
from holdlevels.tasks.tasks import make_task
from holdlevels.tasks.tasksets import Tasks
from tests.reference import busy_tasks, end_told, round_told, start_told
from tests.samples import CAR, NONE, NOT_NUMBERS, OWN, PLAIN, fails, others

TWO = Tasks(make_task("a", 5, 10), make_task("b", 2, 5))
# The greatest numbers that ten tasks can have at once, and a gap of 2 below them.
GREAT = Tasks(*[make_task(name, 100, 1000) for name in "abcdefghi"])
LONG = Tasks(make_task("a", 1, 2), *[make_task(name, 40, 900) for name in "bcdefghij"])


def samples(many):
    luck = random.Random(8)
    for _ in range(many):
        tasks = busy_tasks(luck)
        yield tasks, luck.choice(tasks.names), luck.choice([0, 1, luck.randint(0, 10), luck.randint(0, 99)])


class RoundTest(unittest.TestCase):
    def test_examples(self):
        found = [
            round_length(CAR, "steer", delay=3), start_time(CAR, "steer", 0, delay=3), end_time(CAR, "steer", 0, 3, delay=3),
            end_time(CAR, "plan", 0, 3, delay=5),
        ]
        self.assertEqual(found, [8, 5, 8, 19])
        found = [round_length(TWO, "a", delay=4), list(answers_by(TWO, "a", 0, delay=4)), list(answers_by(TWO, "a", 1, delay=4))]
        self.assertEqual(found, [40, [15, 14, 13, 10], [13, 12, 9, 8]])

    def test_as_told_tick_by_tick(self):
        many = 0
        for tasks, name, held in samples(200):
            gap = tasks[name][2]
            length = round_told(tasks, name, held)
            self.assertEqual(round_length(tasks, name, delay=held), length)
            numbers = range(len(range(0, length, gap)))
            many += len(numbers) > 1
            for level in range(tasks.urgency(name), len(tasks)):
                ends = [end_told(tasks, name, k, level, held) for k in numbers]
                self.assertEqual(list(answers_by(tasks, name, level, delay=held)), [end - k * gap for k, end in enumerate(ends)])
                at = numbers[-1]
                self.assertEqual(end_time(tasks, name, at, level, delay=held), ends[at])
            self.assertEqual([start_time(tasks, name, k, delay=held) for k in numbers[:5]],
                             [start_told(tasks, name, k, held) for k in numbers[:5]])
        self.assertGreater(many, 50)

    def test_one_task_alone(self):
        for longest, gap, held, length in ((1, 2, 0, 1), (1, 2, 1, 2), (1, 2, 2, 4), (1, 2, 99, 198), (100, 1000, 99, 199)):
            tasks = Tasks(make_task("a", longest, gap))
            self.assertEqual(round_length(tasks, "a", delay=held), length)
            self.assertEqual(start_time(tasks, "a", 0, delay=held), held)
            self.assertEqual(list(answers_by(tasks, "a", 0, delay=held))[0], held + longest)
        self.assertEqual(len(list(answers_by(Tasks(make_task("a", 1, 2)), "a", 0, delay=99))), 99)

    def test_the_delay_is_0_if_none_is_passed(self):
        self.assertEqual(round_length(TWO, "a"), round_length(TWO, "a", delay=0))
        self.assertEqual(start_time(TWO, "a", 0), start_time(TWO, "a", 0, delay=0))
        self.assertEqual(end_time(TWO, "a", 0, 1), end_time(TWO, "a", 0, 1, delay=0))
        self.assertEqual(list(answers_by(TWO, "a", 0)), list(answers_by(TWO, "a", 0, delay=0)))
        self.assertEqual([round_length(TWO, "a"), list(answers_by(TWO, "a", 0))], [9, [9]])

    def test_a_release_at_the_start_and_one_at_the_end(self):
        # What is released just at the start comes ahead of it, what is released just at the end does not.
        tasks = Tasks(make_task("a", 2, 40), make_task("b", 2, 4))
        self.assertEqual([start_time(tasks, "a", 0, delay=1), start_time(tasks, "a", 0, delay=2)], [3, 6])
        self.assertEqual([end_time(tasks, "a", 0, 0), end_time(tasks, "a", 0, 1)], [4, 4])
        self.assertEqual([end_time(tasks, "a", 0, 0, delay=1), end_time(tasks, "a", 0, 1, delay=1)], [7, 5])

    def test_the_greatest_numbers(self):
        self.assertEqual([round_length(GREAT, name, delay=99) for name in GREAT.names], list(range(999, 198, -100)))
        self.assertEqual(round_length(LONG, "a", delay=99), round_told(LONG, "a", 99))
        length = round_told(LONG, "a", 99)
        last = (length - 1) // 2
        for level in (0, 4, 9):
            answers = list(answers_by(LONG, "a", level, delay=99))
            self.assertEqual(len(answers), last + 1)
            self.assertEqual(answers[-1], end_told(LONG, "a", last, level, 99) - 2 * last)
        self.assertEqual(start_time(LONG, "a", last, delay=99), start_told(LONG, "a", last, 99))
        self.assertLessEqual(length, 10 * (99 + 361))

    def test_the_round_is_at_most_ten_times_the_work(self):
        for tasks, name, held in samples(200):
            longest = sum([task[1] for task in tasks.tasks])
            self.assertLessEqual(round_length(tasks, name, delay=held), 10 * (held + longest))

    def test_starts_and_ends_and_levels_and_delays(self):
        for tasks, name, held in samples(150):
            levels = range(tasks.urgency(name), len(tasks))
            rows = [list(answers_by(tasks, name, level, delay=held)) for level in levels]
            for low, high in zip(rows, rows[1:]):
                self.assertEqual(len(low), len(high))
                self.assertTrue(all([one >= two for one, two in zip(low, high)]))
            if held < 99:
                more = list(answers_by(tasks, name, levels[0], delay=held + 1))
                self.assertTrue(all([one <= two for one, two in zip(rows[0], more)]))
                self.assertLessEqual(start_time(tasks, name, 0, delay=held), start_time(tasks, name, 0, delay=held + 1))

    def test_a_start_is_the_same_for_all_less_urgent_tasks_and_sections(self):
        tasks = CAR.without("log").changed("plan", longest=5, room=0)
        self.assertEqual(start_time(tasks, "steer", 0, delay=3), start_time(CAR, "steer", 0, delay=3))


class ErrorTest(unittest.TestCase):
    def test_tasks_come_first(self):
        for value in others(Tasks):
            for call in (
                lambda: round_length(value, None, delay=None), lambda: start_time(value, None, None, delay=None),
                lambda: end_time(value, None, None, None, delay=None),
                lambda: next(answers_by(value, None, None, delay=None)),
            ):
                fails(self, InvalidTasks, call)

    def test_then_the_name(self):
        for value in PLAIN + OWN:
            for call in (
                lambda: round_length(CAR, value, delay=None), lambda: start_time(CAR, value, None, delay=None),
                lambda: end_time(CAR, value, None, None, delay=None),
                lambda: next(answers_by(CAR, value, None, delay=None)),
            ):
                fails(self, UnknownName, call, keeps=("name", value))
        fails(self, UnknownName, round_length, NONE, "log", keeps=("name", "log"))
        fails(self, UnknownName, start_time, NONE, "log", 0, keeps=("name", "log"))

    def test_then_the_number(self):
        for value in NOT_NUMBERS + [-1, -10 ** 39]:
            fails(self, InvalidNumber, start_time, CAR, "plan", value, delay="x", keeps=("value", value))
            fails(self, InvalidNumber, end_time, CAR, "plan", value, "y", delay="x", keeps=("value", value))

    def test_then_the_level(self):
        for value in NOT_NUMBERS + [-1, 0, 4, 10 ** 39]:
            fails(self, InvalidNumber, end_time, CAR, "plan", 10 ** 39, value, delay="x", keeps=("value", value))
            found = answers_by(CAR, "plan", value, delay="x")
            fails(self, InvalidNumber, next, found, keeps=("value", value))

    def test_then_the_delay(self):
        for value in NOT_NUMBERS + [-1, 100, 10 ** 39]:
            fails(self, InvalidNumber, round_length, CAR, "plan", delay=value, keeps=("value", value))
            fails(self, InvalidNumber, start_time, CAR, "plan", 10 ** 39, delay=value, keeps=("value", value))
            fails(self, InvalidNumber, end_time, CAR, "plan", 10 ** 39, 3, delay=value, keeps=("value", value))
            found = answers_by(CAR, "plan", 3, delay=value)
            fails(self, InvalidNumber, next, found, keeps=("value", value))
        self.assertEqual(round_length(CAR, "brake", delay=99), 125)

    def test_then_the_number_that_the_round_has_not(self):
        for value in (4, 5, 10 ** 39):
            fails(self, InvalidNumber, start_time, TWO, "a", value, delay=4, keeps=("value", value))
            fails(self, InvalidNumber, end_time, TWO, "a", value, 1, delay=4, keeps=("value", value))
        self.assertEqual([start_time(TWO, "a", 3, delay=4), end_time(TWO, "a", 3, 1, delay=4)], [33, 38])
        # A round that ends just at a release has no job that is released there.
        tasks = Tasks(make_task("a", 2, 4))
        self.assertEqual([round_length(tasks, "a", delay=2), round_length(tasks, "a", delay=3)], [4, 7])
        fails(self, InvalidNumber, start_time, tasks, "a", 1, delay=2, keeps=("value", 1))
        self.assertEqual(start_time(tasks, "a", 1, delay=3), 5)

    def test_a_generator(self):
        found = answers_by(TWO, "a", 0, delay=4)
        self.assertIs(iter(found), found)
        self.assertEqual([next(found), next(found), list(found)], [15, 14, [13, 10]])


if __name__ == "__main__":
    unittest.main()
