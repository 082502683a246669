"""0.18, 17.1 to 17.3 and stage 17: harder tasks."""

import random
import unittest

from holdlevels.errors import InvalidLevels, InvalidOperation, InvalidTasks, NoLevels
from holdlevels.good.greatest import greatest_levels, least_levels, levels_paper
from holdlevels.good.judged import is_good
from holdlevels.margins.growth import cut, interruptions, is_harder, new_interruptions
from holdlevels.room.chains import most_room
from holdlevels.room.threads import threads
from holdlevels.tasks.levels import Levels
from holdlevels.tasks.tasks import make_task
from holdlevels.tasks.tasksets import Tasks
from tests.papers import good_ones, is_levels_paper_told, tight_tasks
from tests.reference import busy_tasks, locked_tasks, some_tasks
from tests.samples import BEST, CAR, NONE, TEN, fails, others

TIGHT = CAR.changed("brake", deadline=4)
HARD = Tasks(make_task("low", 9, 100, deadline=5), make_task("top", 2, 10))


def eased(luck, tasks):
    """Return tasks that are changed in some ways, most of which make them easier."""
    rows = []
    for task in tasks.tasks:
        name, longest, gap, deadline, room, sections = task
        sections = tuple([row for row in sections if luck.random() < 0.8])
        way = luck.random()
        if way < 0.2:
            longest = max([row[1] + 1 for row in sections] + [longest - luck.choice([0, 1, 2]), 1])
        elif way < 0.4:
            gap, deadline = gap + luck.choice([0, 1, 9]), deadline + luck.choice([0, 1, 5])
        elif way < 0.6:
            room = max(0, room - luck.choice([0, 1, 3]))
        if luck.random() < 0.1:
            gap, deadline, room = gap + luck.choice([0, 0, 2]), max(1, deadline + luck.choice([0, 0, -1])), room + luck.choice([0, 0, 1])
        if luck.random() < 0.85:
            rows.append((name, longest, gap, deadline, room, sections))
    if luck.random() < 0.1:
        luck.shuffle(rows)
    return Tasks(*rows)


def harder_told(tasks, other):
    """Return whether tasks are at least as hard, as 17.1 tells it."""
    if [name for name in tasks.names if name in other.names] != list(other.names):
        return False
    for name in other.names:
        one, two = tasks[name], other[name]
        if one[1] < two[1] or one[4] < two[4] or one[2] > two[2] or one[3] > two[3]:
            return False
        for begin, end, lock in two[5]:
            if not [row for row in one[5] if row[2] == lock and row[1] - row[0] >= end - begin]:
                return False
    return True


def cut_told(levels, tasks):
    """Return the numbers of levels cut to easier tasks, as 17.2 tells them."""
    hard = levels.tasks
    return tuple([max([tasks.urgency(other) for other in tasks.names if hard.urgency(other) <= levels[name]]) for name in tasks.names])


def told(tasks):
    """Return the interruptions, as 17.3 tells them."""
    levels = greatest_levels(tasks)
    return tuple(sorted([(one, two) for one in tasks.names for two in tasks.names if levels.may_interrupt(one, two)]))


def samples(many):
    luck = random.Random(17)
    for at in range(many):
        if at % 4 == 0:
            yield locked_tasks(luck)
        else:
            yield tight_tasks(luck, luck.choice([some_tasks, busy_tasks])(luck))


class HarderTest(unittest.TestCase):
    def test_examples(self):
        found = [is_harder(TIGHT, CAR), interruptions(TIGHT), new_interruptions(TIGHT, CAR), new_interruptions(CAR, TIGHT)]
        rows = (("brake", "log"), ("brake", "plan"), ("plan", "log"), ("steer", "log"))
        self.assertEqual(found, [True, rows, (("brake", "plan"),), ()])
        found = [cut(Levels(TIGHT, 0, 2, 3, 3), CAR).numbers, cut(BEST, CAR.only("log", "steer")).numbers, is_harder(CAR, CAR.without("plan"))]
        self.assertEqual(found, [(0, 2, 3, 3), (0, 1), True])

    def test_as_told(self):
        luck = random.Random(171)
        found = {True: 0, False: 0}
        for tasks in samples(300):
            for other in (eased(luck, tasks), eased(luck, eased(luck, tasks))):
                for one, two in ((tasks, other), (other, tasks)):
                    right = harder_told(one, two)
                    self.assertIs(is_harder(one, two), right, (one.tasks, two.tasks))
                    found[right] += 1
        self.assertGreater(min(found.values()), 100)

    def test_each_part_alone(self):
        base = Tasks(make_task("a", 9, 50, (1, 4, "x"), (5, 7, "y"), deadline=40, room=3), make_task("b", 3, 60, room=2))
        self.assertIs(is_harder(base, base), True)
        for numbers, harder in (
            ({"longest": 10}, True), ({"longest": 8}, False), ({"gap": 49}, True), ({"gap": 51}, False), ({"deadline": 39}, True),
            ({"deadline": 41}, False), ({"room": 4}, True), ({"room": 2}, False), ({"longest": 20, "deadline": 41}, False),
        ):
            self.assertIs(is_harder(base.changed("a", **numbers), base), harder, numbers)
            self.assertIs(is_harder(base, base.changed("a", **numbers)), not harder and len(numbers) == 1, numbers)
        self.assertIs(is_harder(base.moved("a", 1), base), False)
        self.assertIs(is_harder(base.with_task(make_task("c", 1, 90), urgency=1), base), True)
        self.assertIs(is_harder(base, base.with_task(make_task("c", 1, 90))), False)
        self.assertIs(is_harder(base.renamed(a="c"), base), False)
        self.assertIs(is_harder(base.moved("a", 1), base.without("b")), True)
        for tasks in (base, NONE, TEN):
            self.assertEqual([is_harder(tasks, NONE), is_harder(NONE, tasks)], [True, len(tasks) == 0])

    def test_one_section_stands_for_several(self):
        one = Tasks(make_task("a", 9, 50, (2, 5, "x")))
        for sections, right in (
            (((0, 3, "x"), (3, 6, "x")), True), (((0, 3, "x"), (3, 5, "x"), (5, 6, "x")), True), (((0, 4, "x"),), False), (((0, 1, "y"),), False),
            (((6, 8, "x"),), True), ((), True), (((0, 1, "x"), (2, 6, "x")), False),
        ):
            other = Tasks(make_task("a", 9, 50, *sections))
            self.assertIs(is_harder(one, other), right, sections)
        self.assertIs(is_harder(one, Tasks(make_task("a", 9, 50))), True)
        self.assertIs(is_harder(Tasks(make_task("a", 9, 50)), one), False)
        # The ceiling of a lock counts for nothing here: another task may have it or not.
        two = one.with_task(make_task("b", 3, 50, (0, 1, "x")))
        self.assertEqual([is_harder(two, one.with_task(make_task("b", 3, 50))), is_harder(one.with_task(make_task("b", 3, 50)), two)], [True, False])

    def test_errors(self):
        for value in others(Tasks):
            fails(self, InvalidTasks, is_harder, value, None)
            fails(self, InvalidTasks, is_harder, CAR, value)


class CutTest(unittest.TestCase):
    def test_good_levels_stay_good(self):
        luck = random.Random(172)
        some = 0
        for tasks in samples(200):
            other = eased(luck, tasks)
            if not is_harder(tasks, other):
                continue
            for levels in good_ones(tasks)[:12]:
                found = cut(levels, other)
                self.assertEqual((found.tasks, found.numbers), (other, cut_told(levels, other)))
                self.assertIs(is_good(found), True)
                self.assertTrue(least_levels(other).is_within(found) and found.is_within(greatest_levels(other)))
                some += 1
        self.assertGreater(some, 200)

    def test_to_no_tasks_to_fewer_and_to_the_same(self):
        self.assertEqual([cut(BEST, NONE), cut(Levels(NONE), NONE), cut(BEST, CAR)], [Levels(NONE), Levels(NONE), BEST])
        for numbers in ((0, 1, 2, 3), (2, 2, 3, 3), (1, 3, 2, 3)):
            levels = Levels(CAR, *numbers)
            for names in (("log", "brake"), ("plan",), ("plan", "steer", "brake"), ("brake",)):
                found = cut(levels, CAR.only(*names))
                self.assertEqual(found, levels.cut_to(*names))
                self.assertEqual(found.numbers, cut_told(levels, CAR.only(*names)))

    def test_errors_in_order(self):
        for value in others(Levels):
            fails(self, InvalidLevels, cut, value, None)
        for value in others(Tasks):
            fails(self, InvalidTasks, cut, BEST, value)
        for tasks in (TIGHT, CAR.moved("log", 1), CAR.with_task(make_task("x", 1, 100)), CAR.renamed(log="lag"), CAR.changed("plan", room=5)):
            fails(self, InvalidOperation, cut, BEST, tasks)


class InterruptionTest(unittest.TestCase):
    def test_as_told(self):
        luck = random.Random(173)
        new = 0
        for tasks in samples(150):
            other = eased(luck, tasks)
            good, easier = greatest_levels(tasks), greatest_levels(other)
            if good is None:
                paper = fails(self, NoLevels, interruptions, tasks).paper
                self.assertTrue(paper[0] == "none" and is_levels_paper_told(tasks, paper))
            else:
                self.assertEqual(interruptions(tasks), told(tasks))
            if good is not None and easier is not None:
                for one, two in ((tasks, other), (other, tasks)):
                    both = [name for name in one.names if name in two.names]
                    rows = [pair for pair in told(one) if pair[0] in both and pair[1] in both and pair not in told(two)]
                    self.assertEqual(new_interruptions(one, two), tuple(rows))
                    new += len(rows)
        self.assertGreater(new, 10)

    def test_harder_tasks_keep_all_interruptions_and_need_as_much_room(self):
        luck = random.Random(174)
        more = 0
        for tasks in samples(300):
            other = eased(luck, eased(luck, tasks))
            if is_harder(tasks, other) and greatest_levels(tasks) is not None:
                self.assertIsNotNone(greatest_levels(other))
                self.assertEqual(new_interruptions(other, tasks), ())
                more += len(new_interruptions(tasks, other)) > 0
                levels, easier = greatest_levels(tasks), greatest_levels(other)
                self.assertGreaterEqual(most_room(levels), most_room(easier))
                self.assertGreaterEqual(len(threads(levels)), len(threads(easier)))
        self.assertGreater(more, 5)

    def test_edges(self):
        self.assertEqual([interruptions(NONE), interruptions(TEN), new_interruptions(CAR, NONE), new_interruptions(NONE, CAR)], [()] * 4)
        self.assertEqual(new_interruptions(CAR, CAR.only("plan", "log")), (("plan", "log"),))
        self.assertEqual(new_interruptions(CAR, CAR.changed("log", longest=1, gap=400).without("steer")), (("brake", "log"), ("plan", "log")))

    def test_errors_in_order(self):
        for value in others(Tasks):
            fails(self, InvalidTasks, interruptions, value)
            fails(self, InvalidTasks, new_interruptions, value, None)
            fails(self, InvalidTasks, new_interruptions, CAR, value)
            fails(self, InvalidTasks, new_interruptions, HARD, value)
        late = CAR.changed("plan", deadline=8)
        for one, two, bad in ((HARD, late, HARD), (late, HARD, late), (CAR, HARD, HARD), (HARD, CAR, HARD)):
            fails(self, NoLevels, new_interruptions, one, two, keeps=("paper", levels_paper(bad)))


if __name__ == "__main__":
    unittest.main()
