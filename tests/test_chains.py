"""0.14, 0.18, 0.19, 14.1 to 14.4 and stage 14: chains and room."""

import random
import unittest
from itertools import combinations

from holdlevels.errors import InvalidLevels, InvalidOperation
from holdlevels.good.greatest import greatest_levels
from holdlevels.room.chains import chain_plan, chains, heaviest_chain, is_chain, is_room_paper, most_room, room_paper, rooms
from holdlevels.runs.runs import Run
from holdlevels.tasks.levels import Levels, all_levels
from holdlevels.tasks.tasks import make_task
from holdlevels.tasks.tasksets import Tasks
from tests.papers import altered, good_ones, tight_tasks
from tests.reference import busy_tasks, full_plan, some_levels, some_plan, some_tasks
from tests.samples import BEST, CAR, NONE, OWN, PLAIN, TEN, fails, others

LEAST = Levels.least(CAR)
GREATEST = Tasks(*[make_task(name, 100, 1000, deadline=20000, room=10 ** 6) for name in "ihgfedcba"])
# Two heaviest chains, each as heavy as the longest one is not.
TWO = Levels(Tasks(make_task("a", 5, 90, room=7), make_task("b", 5, 90, room=3), make_task("c", 1, 90, room=4), make_task("d", 1, 90, room=4)),
             3, 1, 2, 3)
# The chain with the most tasks needs less room than one task alone.
LIGHT = Levels(Tasks(make_task("a", 9, 90, room=1), make_task("b", 9, 90, room=9), make_task("c", 9, 90, room=1), make_task("d", 9, 90, room=1)),
               0, 3, 2, 3)


def told(levels):
    """Return all chains as 0.14 tells them, in the order of stage 14."""
    tasks = levels.tasks
    many = len(tasks)
    found = []
    for size in range(many + 1):
        for row in combinations(range(many), size):
            reaches = [(place, many - 1 if tasks.tasks[place][1] == 1 else levels.numbers[place]) for place in row]
            if all([one[1] < two[0] for one, two in zip(reaches, reaches[1:])]):
                found.append(tuple([tasks.names[place] for place in row]))
    return found


def weight(levels, names):
    return sum([levels.tasks[name][4] for name in names])


def are_rooms_told(levels, value):
    """Return whether a value is rooms, as 14.3 tells it."""
    tasks = levels.tasks
    if not isinstance(value, tuple) or len(value) != len(tasks):
        return False
    if [part for part in value if type(part) is not int or part < 0]:
        return False
    for name in tasks.names:
        first, last = levels.reach(name)
        if sum([part for place, part in enumerate(value) if first <= place <= last]) < tasks[name][4]:
            return False
    return True


def is_paper_told(levels, value):
    if not isinstance(value, tuple) or len(value) != 3 or value[0] != "room":
        return False
    if not isinstance(value[1], tuple) or value[1] not in told(levels) or not are_rooms_told(levels, value[2]):
        return False
    return weight(levels, value[1]) == sum(value[2])


def samples(many):
    luck = random.Random(14)
    for _ in range(many):
        tasks = luck.choice([some_tasks, busy_tasks])(luck)
        if luck.random() < 0.3:
            name = luck.choice(tasks.names)
            tasks = tasks.replaced(make_task(name, 1, tasks[name][2], room=luck.choice([0, 3, 9])))
        yield some_levels(luck, tasks)


class ChainTest(unittest.TestCase):
    def test_examples(self):
        paper = ("room", ("log", "plan"), (5, 2, 1, 1))
        found = [len(list(chains(BEST))), heaviest_chain(BEST), most_room(BEST), sum(rooms(BEST)), is_room_paper(BEST, paper)]
        self.assertEqual(found, [8, ("log", "plan"), 9, 9, True])
        found = [is_chain(BEST, ("plan", "steer")), Run(BEST, chain_plan(BEST, "log", "brake")).peak[0], most_room(LEAST)]
        self.assertEqual(found, [False, 6, 12])

    def test_all_chains_in_the_told_order(self):
        for levels in [*samples(200), BEST, LEAST, TWO, LIGHT]:
            right = told(levels)
            self.assertEqual(list(chains(levels)), right)
            names = levels.tasks.names
            for size in range(len(names) + 1):
                for row in combinations(names, size):
                    self.assertIs(is_chain(levels, row), row in right)
                    self.assertIs(is_chain(levels, row[::-1]), row[::-1] in right)
                    self.assertIs(is_chain(levels, row + row[:1]), row == ())
        self.assertEqual(list(chains(BEST)), [
            (), ("log",), ("plan",), ("steer",), ("brake",), ("log", "plan"), ("log", "steer"), ("log", "brake"),
        ])

    def test_each_part_of_a_chain_is_one(self):
        for levels in samples(60):
            for names in chains(levels):
                for size in range(len(names)):
                    for part in combinations(names, size):
                        self.assertIs(is_chain(levels, part), True)

    def test_no_tasks_one_and_ten(self):
        none = Levels(NONE)
        self.assertEqual([list(chains(none)), heaviest_chain(none), most_room(none), rooms(none)], [[()], (), 0, ()])
        self.assertEqual(room_paper(none), ("room", (), ()))
        self.assertIs(is_room_paper(none, ("room", (), ())), True)
        self.assertIs(is_chain(none, ()), True)
        for room in (0, 1, 10 ** 6):
            one = Levels(Tasks(make_task("a", 5, 50, room=room)), 0)
            self.assertEqual([list(chains(one)), most_room(one), rooms(one)], [[(), ("a",)], room, (room,)])
            self.assertEqual([chain_plan(one, "a"), is_room_paper(one, room_paper(one))], [((0, "a", 5),), True])
            self.assertEqual(is_room_paper(one, ("room", (), (0,))), room == 0)
        # A task of one tick is never interrupted: so each two of these share all.
        self.assertEqual([len(list(chains(Levels.least(TEN)))), most_room(Levels.least(TEN))], [11, 1])
        ten = Tasks(*[make_task(name, 2, 30, room=place) for place, name in enumerate("abcdefghij")])
        self.assertEqual([len(list(chains(Levels.least(ten)))), len(list(chains(Levels.greatest(ten))))], [1024, 11])
        self.assertEqual([most_room(Levels.least(ten)), most_room(Levels.greatest(ten))], [45, 9])
        self.assertEqual(list(chains(Levels.least(ten)))[-1], ten.names)

    def test_chains_is_a_generator(self):
        found = chains(BEST)
        self.assertIs(iter(found), found)
        self.assertEqual([next(found), next(found), len(list(found))], [(), ("log",), 6])

    def test_other_values_are_no_chains(self):
        for value in PLAIN + OWN + [("log", None), ("log", ["plan"]), (("log",),), ["log"], ("log", "log"), ("plan", "log"), ("log", "x")]:
            self.assertIs(is_chain(BEST, value), isinstance(value, tuple) and value in (("log",), ()), value)

    def test_stacks_of_runs_are_chains(self):
        luck = random.Random(141)
        for levels in samples(150):
            for plan in (some_plan(luck, levels.tasks), full_plan(luck, levels.tasks, 60)):
                run = Run(levels, plan)
                self.assertTrue(all([is_chain(levels, run.stack_at(tick)) for tick in range(len(run))]))
                self.assertLessEqual(run.peak[0], most_room(levels))

    def test_each_chain_is_opened_by_its_plan(self):
        long = 0
        for levels in [*samples(120), BEST, LEAST, Levels.least(GREATEST)]:
            for names in chains(levels):
                if names:
                    plan = chain_plan(levels, *names)
                    self.assertEqual(sorted([job[1] for job in plan]), sorted(names))
                    run = Run(levels, plan)
                    self.assertIn(names, [run.stack_at(tick) for tick in range(len(run))])
                    long += len(names) > 2
        self.assertGreater(long, 50)
        whole = chain_plan(Levels.least(GREATEST), *GREATEST.names)
        self.assertEqual(Run(Levels.least(GREATEST), whole).peak, (9 * 10 ** 6, 8 * 99))

    def test_errors(self):
        calls = (heaviest_chain, most_room, rooms, room_paper, chain_plan)
        for value in others(Levels):
            for call in calls:
                fails(self, InvalidLevels, call, value)
            fails(self, InvalidLevels, is_chain, value, ())
            fails(self, InvalidLevels, is_chain, value, None)
            fails(self, InvalidLevels, is_room_paper, value, None)
            fails(self, InvalidLevels, chain_plan, value, "log", None)
            found = chains(value)
            fails(self, InvalidLevels, next, found)
        for names in ((), ("plan", "log"), ("log", "log"), ("plan", "steer"), ("x",), ("log", "x"), ("log", None), (("log",),), (["log"],)):
            fails(self, InvalidOperation, chain_plan, BEST, *names)
        for value in PLAIN + OWN:
            fails(self, InvalidOperation, chain_plan, BEST, value)
            fails(self, InvalidOperation, chain_plan, BEST, "log", value)


class RoomTest(unittest.TestCase):
    def test_most_room_as_told(self):
        for levels in [*samples(300), TWO, LIGHT]:
            most = max([weight(levels, names) for names in told(levels)])
            self.assertEqual(most_room(levels), most)
            self.assertEqual(weight(levels, heaviest_chain(levels)), most)
            self.assertIn(heaviest_chain(levels), told(levels))
            self.assertTrue(are_rooms_told(levels, rooms(levels)))
            self.assertEqual(sum(rooms(levels)), most)
            paper = room_paper(levels)
            self.assertIs(is_room_paper(levels, paper), True)
            self.assertTrue(is_paper_told(levels, paper))

    def test_two_heaviest_chains_and_a_longest_one_that_is_none(self):
        self.assertEqual([most_room(TWO), most_room(LIGHT)], [7, 10])
        # "a" alone, and "b" below "c" or below "d".
        for names in (("a",), ("b", "c"), ("b", "d")):
            self.assertIs(is_room_paper(TWO, ("room", names, rooms(TWO))), True, names)
            self.assertIs(is_room_paper(TWO, ("room", names, (0, 3, 0, 4))), True, names)
        longest = [names for names in chains(LIGHT) if len(names) == 3]
        self.assertEqual([longest, weight(LIGHT, longest[0]), heaviest_chain(LIGHT)], [[("a", "c", "d")], 3, ("a", "b")])
        self.assertIs(is_room_paper(LIGHT, ("room", longest[0], rooms(LIGHT))), False)
        # A longest chain of one task.
        self.assertEqual([most_room(Levels.greatest(CAR)), heaviest_chain(Levels.greatest(CAR))], [5, ("log",)])

    def test_rooms_0_are_in_any_heaviest_chain_or_not(self):
        levels = Levels.least(Tasks(make_task("a", 5, 50, room=0), make_task("b", 5, 50, room=3), make_task("c", 5, 50, room=0)))
        for names in (("b",), ("a", "b"), ("b", "c"), ("a", "b", "c")):
            self.assertIs(is_room_paper(levels, ("room", names, (0, 3, 0))), True, names)
        for names in (("a",), ("a", "c"), ("c",), (), ("c", "b"), ("b", "b")):
            self.assertIs(is_room_paper(levels, ("room", names, (0, 3, 0))), False, names)

    def test_other_rooms_of_the_same_sum(self):
        for row in ((5, 4, 0, 0), (5, 2, 2, 0), (5, 2, 0, 2), (5, 0, 2, 2), (5, 2, 1, 1), (5, 0, 0, 4), (5, 1, 2, 1)):
            self.assertIs(is_room_paper(BEST, ("room", ("log", "plan"), row)), are_rooms_told(BEST, row), row)
        for row in ((9, 0, 0, 0), (5, 4, 1, -1), (5, 4, 0), (5, 4, 0, 0, 0), (4, 5, 0, 0), (5, 4, 0, False), (5, 2, 1, True), [5, 2, 1, 1],
                    (5, 2, 1, 2), (5, 2, 1, "1"), (5, 2, 1, None), (5, 10 ** 39, 1, 1)):
            self.assertIs(is_room_paper(BEST, ("room", ("log", "plan"), row)), False, row)

    def test_one_part_otherwise(self):
        luck = random.Random(143)
        found = {True: 0, False: 0}
        for levels in [*samples(200), TWO, LIGHT]:
            for _ in range(20):
                value = altered(luck, levels.tasks.names, room_paper(levels))
                right = is_paper_told(levels, value)
                self.assertIs(is_room_paper(levels, value), right, (levels.tasks.tasks, levels.numbers, value))
                found[right] += 1
        self.assertGreater(min(found.values()), 30)

    def test_other_values_are_no_papers(self):
        paper = ("room", ("log", "plan"), (5, 2, 1, 1))
        for value in PLAIN + OWN + [paper[:2], paper + ((),), list(paper), ("Room",) + paper[1:], (paper[0], paper[2], paper[1])]:
            self.assertIs(is_room_paper(BEST, value), False, value)
        for value in PLAIN + OWN:
            for at in range(3):
                self.assertIs(is_room_paper(BEST, paper[:at] + (value,) + paper[at + 1:]), False, (at, value))

    def test_greater_levels_have_no_other_chains(self):
        luck = random.Random(144)
        for _ in range(40):
            tasks = tight_tasks(luck, luck.choice([some_tasks, busy_tasks])(luck))
            for _ in range(5):
                one, two = some_levels(luck, tasks), some_levels(luck, tasks)
                self.assertLessEqual(set(chains(one | two)), set(chains(one)))
                self.assertLessEqual(most_room(one | two), most_room(one))
            good = good_ones(tasks)
            if good:
                self.assertEqual(most_room(greatest_levels(tasks)), min([most_room(levels) for levels in good]))
        self.assertEqual(min([most_room(levels) for levels in all_levels(CAR) if levels.is_within(BEST)]), most_room(BEST))


if __name__ == "__main__":
    unittest.main()
