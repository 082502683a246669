"""0.11, 0.14, 3.1 and stage 3: levels."""

import unittest
from itertools import product

from holdlevels.errors import InvalidLevels, InvalidNumber, InvalidOperation, InvalidTasks, TooMany, UnknownName
from holdlevels.runs.runs import Run
from holdlevels.tasks.levels import Levels, all_levels
from holdlevels.tasks.tasks import make_task
from holdlevels.tasks.tasksets import Tasks
from tests.samples import BEST, CAR, NONE, OWN, PLAIN, TEN, cannot_be_iterated, fails, others

# The job of the middle one is never interrupted, as it runs one tick.
MIXED = Tasks(make_task("a", 5, 50), make_task("b", 1, 20), make_task("c", 2, 30), make_task("d", 3, 40))
WRONG_LEVELS = [None, True, False, 10 ** 39, "3", "", (), (3,), [3], {}, CAR, BEST]


def first(tasks, count):
    return tasks.only(*tasks.names[:count])


class MakingTest(unittest.TestCase):
    def test_examples(self):
        found = [BEST["plan"], BEST.reach("log"), BEST.interrupters("log"), BEST.may_interrupt("brake", "plan")]
        self.assertEqual(found, [3, (0, 0), ("plan", "steer", "brake"), False])
        self.assertEqual(Levels.least(CAR).numbers, (0, 1, 2, 3))
        both = BEST | Levels(CAR, 1, 1, 2, 3)
        found = [both.numbers, BEST.cut_to("log", "brake").numbers, str(BEST), len(list(all_levels(CAR)))]
        self.assertEqual(found, [(1, 3, 3, 3), (0, 1), "levels 0 3 3 3", 24])

    def test_least_and_greatest(self):
        self.assertEqual(Levels.greatest(CAR).numbers, (3, 3, 3, 3))
        self.assertEqual(Levels.greatest(TEN).numbers, (9,) * 10)
        self.assertEqual(Levels.least(TEN).numbers, tuple(range(10)))
        self.assertEqual(Levels.greatest(NONE).numbers, ())
        self.assertEqual(Levels.least(NONE).numbers, ())

    def test_making(self):
        self.assertEqual(Levels(CAR, 0, 3, 2, 3).numbers, (0, 3, 2, 3))
        self.assertEqual(Levels(CAR, 0, 3, 2, 3).tasks, CAR)
        self.assertEqual(Levels.of(CAR, (0, 3, 2, 3)), Levels(CAR, 0, 3, 2, 3))
        self.assertEqual(Levels.of(NONE, ()), Levels(NONE))

    def test_tasks_come_first(self):
        for value in others(Tasks) + [CAR.tasks]:
            fails(self, InvalidTasks, Levels, value, 0, 3, 3, None)
            fails(self, InvalidTasks, Levels.of, value, None)
            fails(self, InvalidTasks, Levels.greatest, value)
            fails(self, InvalidTasks, Levels.least, value)

    def test_numbers_of_each_task(self):
        for place, right in enumerate((0, 3, 3, 3)):
            for value in WRONG_LEVELS + [place - 1, 4, -1]:
                numbers = [0, 3, 3, 3]
                numbers[place] = value
                fails(self, InvalidLevels, Levels, CAR, *numbers)
                fails(self, InvalidLevels, Levels.of, CAR, tuple(numbers))
        for numbers in ((), (0, 3, 3), (0, 3, 3, 3, 3), (3,)):
            fails(self, InvalidLevels, Levels, CAR, *numbers)
            fails(self, InvalidLevels, Levels.of, CAR, numbers)
        fails(self, InvalidLevels, Levels, NONE, 0)
        for value in PLAIN + OWN + [[0, 3, 3, 3]]:
            fails(self, InvalidLevels, Levels.of, CAR, value)

    def test_all_levels_between(self):
        for numbers in product(range(-1, 5), repeat=2):
            two = first(CAR, 2)
            if 0 <= numbers[0] <= 1 and numbers[1] == 1:
                self.assertEqual(Levels(two, *numbers).numbers, numbers)
            else:
                fails(self, InvalidLevels, Levels, two, *numbers)


class ReadingTest(unittest.TestCase):
    def test_items_and_reaches(self):
        levels = Levels(CAR, 2, 1, 2, 3)
        self.assertEqual([levels[name] for name in CAR.names], [2, 1, 2, 3])
        self.assertEqual([levels.reach(name) for name in CAR.names], [(0, 2), (1, 1), (2, 2), (3, 3)])

    def test_reach_of_a_job_of_one_tick(self):
        self.assertEqual(Levels.least(MIXED).reach("b"), (1, 3))
        self.assertEqual(Levels.least(MIXED)["b"], 1)
        self.assertEqual([Levels.least(TEN).reach(name)[1] for name in TEN.names], [9] * 10)

    def test_interruptions(self):
        for numbers in product(range(4), range(1, 4), range(2, 4), (3,)):
            levels = Levels(MIXED, *numbers)
            for other, name in product(MIXED.names, MIXED.names):
                right = other != "b" and MIXED.urgency(name) > levels[other]
                self.assertIs(levels.may_interrupt(name, other), right)
                self.assertIs(name in levels.interrupters(other), right)
        self.assertEqual(Levels.least(MIXED).interrupters("b"), ())
        self.assertEqual(Levels.least(MIXED).interrupters("a"), ("b", "c", "d"))

    def test_a_run_starts_one_job_directly_above_another_exactly_if_it_may_interrupt(self):
        for numbers in product(range(4), range(1, 4), range(2, 4), (3,)):
            levels = Levels(MIXED, *numbers)
            for other, name in product(MIXED.names, MIXED.names):
                if other != name:
                    plan = tuple(sorted([(0, other, MIXED[other][1]), (1, name, 1)]))
                    above = len(list(Run(levels, plan).interruptions())) == 1
                    self.assertIs(levels.may_interrupt(name, other), above)

    def test_unknown_names(self):
        for value in PLAIN + OWN:
            for call in (
                lambda name: BEST[name], BEST.reach, BEST.interrupters, lambda name: BEST.with_level(name, None),
                lambda name: BEST.may_interrupt(name, "x"), lambda name: BEST.may_interrupt("log", name),
                lambda name: BEST.cut_to("log", name, "x"),
            ):
                fails(self, UnknownName, call, value, keeps=("name", value))
        fails(self, UnknownName, BEST.may_interrupt, "x", "y", keeps=("name", "x"))

    def test_with_level(self):
        self.assertEqual(BEST.with_level("log", 2).numbers, (2, 3, 3, 3))
        self.assertEqual(BEST.with_level("plan", 1).numbers, (0, 1, 3, 3))
        self.assertEqual(BEST.with_level("brake", 3), BEST)
        self.assertEqual(BEST.numbers, (0, 3, 3, 3))
        for value in WRONG_LEVELS + [0, 4, -1]:
            fails(self, InvalidNumber, BEST.with_level, "plan", value, keeps=("value", value))
        fails(self, InvalidNumber, BEST.with_level, "brake", 2, keeps=("value", 2))

    def test_signs(self):
        self.assertEqual((len(BEST), len(Levels(NONE))), (4, 0))
        self.assertEqual((str(Levels(NONE)), str(Levels.least(TEN))), ("levels", "levels 0 1 2 3 4 5 6 7 8 9"))

    def test_equal(self):
        same = Levels(Tasks.of(CAR.tasks), 0, 3, 3, 3)
        self.assertTrue(BEST == same)
        self.assertFalse(BEST != same)
        self.assertTrue(BEST != BEST.with_level("log", 1))
        self.assertTrue(BEST != Levels(CAR.changed("log", room=1), 0, 3, 3, 3))
        for value in others(Levels) + [BEST.numbers]:
            self.assertIs(BEST == value, False)
            self.assertIs(value != BEST, True)

    def test_not_iterated_and_not_assigned(self):
        cannot_be_iterated(self, BEST)
        cannot_be_iterated(self, Levels(NONE))
        for name in ("tasks", "numbers"):
            with self.assertRaises(AttributeError):
                setattr(BEST, name, ())


class ComparingTest(unittest.TestCase):
    def test_greater_and_lesser_ones(self):
        rows = list(all_levels(first(CAR, 3)))
        for one, two in product(rows, rows):
            pairs = list(zip(one.numbers, two.numbers))
            self.assertEqual((one | two).numbers, tuple([max(pair) for pair in pairs]))
            self.assertEqual((one & two).numbers, tuple([min(pair) for pair in pairs]))
            self.assertIs(one.is_within(two), all([low <= high for low, high in pairs]))

    def test_other_values(self):
        for value in others(Levels) + [Levels(NONE), Levels.least(CAR.changed("log", room=1)), BEST.numbers]:
            fails(self, InvalidOperation, lambda other: BEST | other, value)
            fails(self, InvalidOperation, lambda other: BEST & other, value)
            self.assertIs(BEST.is_within(value), False)

    def test_cut_to(self):
        levels = Levels(CAR, 2, 2, 3, 3)
        self.assertEqual(levels.cut_to(*CAR.names), levels)
        self.assertEqual(levels.cut_to(), Levels(NONE))
        self.assertEqual(levels.cut_to("brake", "log", "brake").numbers, (0, 1))
        self.assertEqual(levels.cut_to("log", "plan", "brake").numbers, (1, 1, 2))
        self.assertEqual(levels.cut_to("steer", "log").numbers, (1, 1))
        self.assertEqual(levels.cut_to("steer", "log").tasks, CAR.only("log", "steer"))


class AllLevelsTest(unittest.TestCase):
    def test_all_of_them_ascending(self):
        for count, many in enumerate((1, 1, 2, 6, 24)):
            tasks = first(CAR, count)
            numbers = [levels.numbers for levels in all_levels(tasks)]
            right = list(product(*[range(urgency, count) for urgency in range(count)]))
            self.assertEqual(numbers, right)
            self.assertEqual(len(numbers), many)
        self.assertTrue(all([levels.tasks == CAR for levels in all_levels(CAR)]))

    def test_it_is_a_generator(self):
        found = all_levels(CAR)
        self.assertIs(iter(found), found)
        self.assertEqual([next(found).numbers, next(found).numbers], [(0, 1, 2, 3), (0, 1, 3, 3)])

    def test_at_most_1000(self):
        self.assertEqual(len(list(all_levels(first(TEN, 6)))), 720)
        for count in (7, 10):
            found = all_levels(first(TEN, count))
            fails(self, TooMany, next, found, keeps=("limit", 1000))

    def test_errors_come_with_the_first_result(self):
        for value in others(Tasks):
            found = all_levels(value)
            fails(self, InvalidTasks, next, found)


if __name__ == "__main__":
    unittest.main()
