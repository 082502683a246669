"""0.18, 15.1 to 15.3 and stage 15: threads."""

import random
import unittest

from holdlevels.errors import InvalidLevels, UnknownName
from holdlevels.good.greatest import greatest_levels
from holdlevels.room.chains import chains
from holdlevels.room.threads import is_thread_paper, is_threads, may_share, thread_paper, threads
from holdlevels.runs.runs import Run
from holdlevels.tasks.levels import Levels
from holdlevels.tasks.tasks import make_task
from holdlevels.tasks.tasksets import Tasks
from tests.papers import altered, good_ones, tight_tasks
from tests.reference import busy_tasks, full_plan, some_levels, some_plan, some_tasks
from tests.samples import BEST, CAR, NONE, OWN, PLAIN, TEN, fails, others

LEAST = Levels.least(CAR)


def samples(many):
    luck = random.Random(15)
    for _ in range(many):
        tasks = luck.choice([some_tasks, busy_tasks])(luck)
        if luck.random() < 0.3:
            name = luck.choice(tasks.names)
            tasks = tasks.replaced(make_task(name, 1, tasks[name][2]))
        yield luck.choice([Levels.least(tasks), some_levels(luck, tasks), some_levels(luck, tasks)])


def share_told(levels, name, other):
    """Return whether some urgency lies in both reaches, by asking for each one."""
    places = [set(range(levels.reach(one)[0], levels.reach(one)[1] + 1)) for one in (name, other)]
    return bool(places[0] & places[1])


def parted(names):
    """Yield all ways to put names into groups, each with its names and its groups in order."""
    if not names:
        yield ()
        return
    for rest in parted(names[1:]):
        yield ((names[0],),) + rest
        for at, group in enumerate(rest):
            yield ((names[0],) + group,) + rest[:at] + rest[at + 1:]


def is_told(levels, value):
    """Return whether a value is threads, as 15.2 tells it."""
    if not isinstance(value, tuple) or value not in list(parted(levels.tasks.names)):
        return False
    return all([share_told(levels, one, two) for group in value for one in group for two in group])


def is_paper_told(levels, value):
    if not isinstance(value, tuple) or len(value) != 3 or value[0] != "threads" or not is_told(levels, value[1]):
        return False
    return isinstance(value[2], tuple) and value[2] in list(chains(levels)) and len(value[1]) == len(value[2])


class ThreadTest(unittest.TestCase):
    def test_examples(self):
        self.assertEqual([may_share(BEST, "log", "brake"), len(threads(LEAST))], [False, 4])
        self.assertIn(threads(BEST), [(("log",), ("plan", "steer", "brake"))])
        found = [is_threads(BEST, (("log",), ("plan", "brake"), ("steer",))), is_thread_paper(BEST, ("threads", threads(BEST), ("log", "steer")))]
        self.assertEqual(found, [True, True])

    def test_share_as_told(self):
        found = {True: 0, False: 0}
        for levels in samples(200):
            for name in levels.tasks.names:
                self.assertIs(may_share(levels, name, name), True)
                for other in levels.tasks.names:
                    right = share_told(levels, name, other)
                    self.assertIs(may_share(levels, name, other), right)
                    self.assertIs(may_share(levels, other, name), right)
                    found[right] += 1
        self.assertGreater(min(found.values()), 100)

    def test_who_shares_is_never_started_at_once(self):
        luck = random.Random(151)
        for levels in samples(100):
            for plan in (some_plan(luck, levels.tasks), full_plan(luck, levels.tasks, 60)):
                run = Run(levels, plan)
                for tick in range(len(run)):
                    stack = run.stack_at(tick)
                    self.assertFalse([one for one in stack for two in stack if one != two and may_share(levels, one, two)])

    def test_each_two_share_means_all_share(self):
        for levels in samples(100):
            for groups in parted(levels.tasks.names):
                self.assertIs(is_threads(levels, groups), is_told(levels, groups))
                for group in groups:
                    if all([may_share(levels, one, two) for one in group for two in group]):
                        ends = [levels.reach(name) for name in group]
                        self.assertLessEqual(max([first for first, _ in ends]), min([last for _, last in ends]))

    def test_fewest_as_told(self):
        many = set()
        for levels in samples(150):
            found = threads(levels)
            self.assertTrue(is_told(levels, found))
            self.assertIs(is_threads(levels, found), True)
            fewest = min([len(groups) for groups in parted(levels.tasks.names) if is_told(levels, groups)])
            self.assertEqual([len(found), max([len(names) for names in chains(levels)])], [fewest] * 2)
            self.assertIs(is_thread_paper(levels, thread_paper(levels)), True)
            self.assertTrue(is_paper_told(levels, thread_paper(levels)))
            many.add(fewest)
        self.assertEqual(many, {1, 2, 3, 4})

    def test_greatest_levels_have_the_fewest(self):
        luck = random.Random(152)
        for _ in range(60):
            tasks = tight_tasks(luck, luck.choice([some_tasks, busy_tasks])(luck))
            good = good_ones(tasks)
            if good:
                self.assertEqual(len(threads(greatest_levels(tasks))), min([len(threads(levels)) for levels in good]))

    def test_no_tasks_one_and_ten(self):
        self.assertEqual([threads(Levels(NONE)), thread_paper(Levels(NONE))], [(), ("threads", (), ())])
        self.assertIs(is_threads(Levels(NONE), ()) and is_thread_paper(Levels(NONE), ("threads", (), ())), True)
        self.assertIs(is_threads(Levels(NONE), ((),)), False)
        one = Levels(Tasks(make_task("a", 5, 50)), 0)
        self.assertEqual([threads(one), thread_paper(one)], [(("a",),), ("threads", (("a",),), ("a",))])
        ten = Tasks(*[make_task(name, 2, 30) for name in "abcdefghij"])
        self.assertEqual([threads(Levels.greatest(ten)), len(threads(Levels.least(ten)))], [(ten.names,), 10])
        # A longest chain of one task: each of these alone shows that there are no fewer.
        for name in ten.names:
            self.assertIs(is_thread_paper(Levels.greatest(ten), ("threads", (ten.names,), (name,))), True)
        # A task of one tick shares with all more urgent ones, whatever its level is.
        self.assertEqual(threads(Levels.least(TEN)), (TEN.names,))

    def test_other_threads_and_other_chains(self):
        levels = Levels(CAR, 0, 2, 3, 3)
        rows = {
            (("log",), ("plan", "steer"), ("brake",)): True, (("log",), ("plan",), ("steer", "brake")): True,
            (("log",), ("plan", "brake"), ("steer",)): False, (("log",), ("steer", "brake"), ("plan",)): False,
            (("log",), ("plan",), ("steer",), ("brake",)): True, (("plan", "steer"), ("log",), ("brake",)): False,
            (("log",), ("steer", "plan"), ("brake",)): False, (("log",), ("plan", "steer")): False, (("log", "plan"), ("steer", "brake")): False,
            (("log",), ("plan", "steer"), ("brake",), ("brake",)): False, (("log",), ("plan", "plan", "steer"), ("brake",)): False,
            (("log",), (), ("plan", "steer"), ("brake",)): False, (("log",), ("plan", "steer"), ("x",)): False,
        }
        for groups, right in rows.items():
            self.assertEqual([is_threads(levels, groups), is_told(levels, groups)], [right] * 2, groups)
        for names in (("log", "plan", "brake"), ("log", "steer"), ("log", "plan", "steer"), ("plan", "brake"), ("log", "brake", "plan"), ()):
            for groups in (threads(levels), tuple([(name,) for name in CAR.names])):
                value = ("threads", groups, names)
                self.assertIs(is_thread_paper(levels, value), names == ("log", "plan", "brake") and len(groups) == 3, value)
        for groups in ((("log",), ("plan",), ("steer", "brake")), (("log",), ("plan", "steer"), ("brake",))):
            self.assertIs(is_thread_paper(levels, ("threads", groups, ("log", "plan", "brake"))), True)

    def test_one_part_otherwise(self):
        luck = random.Random(153)
        found = {True: 0, False: 0}
        for levels in samples(200):
            names = levels.tasks.names
            right = [groups for groups in parted(names) if is_told(levels, groups)]
            for _ in range(10):
                value = altered(luck, names, luck.choice(right))
                self.assertIs(is_threads(levels, value), is_told(levels, value), (levels.numbers, value))
                value = altered(luck, names, ("threads", luck.choice([threads(levels), luck.choice(right)]), thread_paper(levels)[2]))
                told = is_paper_told(levels, value)
                self.assertIs(is_thread_paper(levels, value), told, (levels.tasks.tasks, levels.numbers, value))
                found[told] += 1
        self.assertGreater(min(found.values()), 30)

    def test_other_values(self):
        paper = thread_paper(BEST)
        groups = paper[1]
        for value in PLAIN + OWN + [list(groups), ("log", "plan", "steer", "brake"), tuple([list(group) for group in groups]), groups[:1], groups + ((),)]:
            self.assertIs(is_threads(BEST, value), False, value)
            self.assertIs(is_threads(BEST, (("log",), value)), False, value)
            self.assertIs(is_threads(BEST, (("log",), ("plan", "steer", "brake", value))), False, value)
            self.assertIs(is_thread_paper(BEST, value), False, value)
            for at in range(3):
                self.assertIs(is_thread_paper(BEST, paper[:at] + (value,) + paper[at + 1:]), False, (at, value))
        for value in (paper[:2], paper + ((),), list(paper), ("room",) + paper[1:], (paper[0], paper[2], paper[1])):
            self.assertIs(is_thread_paper(BEST, value), False, value)

    def test_errors_in_order(self):
        for value in others(Levels):
            for call in (threads, thread_paper):
                fails(self, InvalidLevels, call, value)
            fails(self, InvalidLevels, is_threads, value, None)
            fails(self, InvalidLevels, is_thread_paper, value, ())
            fails(self, InvalidLevels, may_share, value, None, None)
        for value in PLAIN + OWN:
            fails(self, UnknownName, may_share, BEST, value, "x", keeps=("name", value))
            fails(self, UnknownName, may_share, BEST, "log", value, keeps=("name", value))
        fails(self, UnknownName, may_share, Levels(NONE), "a", "b", keeps=("name", "a"))


if __name__ == "__main__":
    unittest.main()
