"""0.18, 16.1, 16.2 and stage 16: margins."""

import random
import unittest
from fractions import Fraction

from holdlevels.errors import InvalidOperation, InvalidTasks, NoLevels, UnknownName
from holdlevels.good.greatest import greatest_levels, levels_paper
from holdlevels.margins.margins import at_margin, is_margin_paper, margin, margin_paper, margins
from holdlevels.runs.plans import shifted
from holdlevels.tasks.tasks import make_task
from holdlevels.tasks.tasksets import Tasks
from tests.papers import altered, good_ones, is_levels_paper_told, tight_tasks
from tests.reference import busy_tasks, locked_tasks, some_tasks
from tests.samples import CAR, NONE, OWN, PLAIN, fails, others

WORDS = ("longest", "gap", "deadline")
PLACES = {"longest": 1, "gap": 2, "deadline": 3}
HARD = Tasks(make_task("low", 9, 100, deadline=5), make_task("top", 2, 10))
# "mid" is late at each number of "low" or of "top": a section of "low" is too long for it.
NEVER = Tasks(make_task("low", 9, 1000, (0, 5, "x"), deadline=20000), make_task("mid", 2, 900, (0, 1, "x"), deadline=2),
              make_task("top", 1, 1000, deadline=20000))
# All numbers can be as hard as numbers are.
EASY = Tasks(make_task("a", 99, 1000, deadline=20000), make_task("b", 1, 20, deadline=20000))


def values(task, number):
    """Return all values of a number, the easiest one first, as 16.1 tells them."""
    if number == "longest":
        return list(range(max([row[1] for row in task[5]] + [0]) + 1, 101))
    return list(range(1000 if number == "gap" else 20000, 0, -1))


def with_value(tasks, name, number, value):
    """Return the tasks with a value, or None for too great a load."""
    rows = [list(task) for task in tasks.tasks]
    for row in rows:
        if row[0] == name:
            row[PLACES[number]] = value
    if sum([Fraction(row[1], row[2]) for row in rows]) > Fraction(9, 10):
        return None
    return Tasks(*[tuple(row) for row in rows])


def is_possible(tasks, name, number, value):
    changed = with_value(tasks, name, number, value)
    return changed is not None and greatest_levels(changed) is not None


def is_told(tasks, name, number, value):
    """Return whether a value is a margin paper, as 16.2 tells it."""
    if not isinstance(value, tuple) or len(value) != 3:
        return False
    found, inside, outside = value
    row = values(tasks[name], number)
    if found is None:
        if inside is not None or not isinstance(outside, tuple) or outside[:1] != ("none",):
            return False
        return is_levels_paper_told(with_value(tasks, name, number, row[0]), outside)
    if type(found) is not int or found not in row or not isinstance(inside, tuple) or inside[:1] != ("greatest",):
        return False
    changed = with_value(tasks, name, number, found)
    if changed is None or not is_levels_paper_told(changed, inside):
        return False
    if found == row[-1]:
        return outside == "bound"
    changed = with_value(tasks, name, number, row[row.index(found) + 1])
    if changed is None:
        return outside == "load"
    return isinstance(outside, tuple) and outside[:1] == ("none",) and is_levels_paper_told(changed, outside)


def samples(many):
    luck = random.Random(16)
    for at in range(many):
        if at % 4 == 0:
            yield locked_tasks(luck)
        elif at % 4 == 1:
            yield luck.choice([some_tasks, busy_tasks])(luck)
        else:
            yield tight_tasks(luck, luck.choice([some_tasks, busy_tasks])(luck))


def places(tasks):
    return [(name, number) for name in tasks.names for number in WORDS]


class MarginTest(unittest.TestCase):
    def test_examples(self):
        found = [margins(CAR)["brake"], margin_paper(CAR, "brake", "gap")[2], margin_paper(CAR, "brake", "deadline")[2][0]]
        self.assertEqual(found + [at_margin(CAR, "brake", "longest").load], [(3, 7, 2), "load", "none", (9, 10)])
        self.assertEqual([margin(HARD, "top", "gap"), margin(HARD, "low", "deadline"), margin(HARD, "low", "longest")], [None, 11, 3])

    def test_the_last_possible_value(self):
        found = set()
        for tasks in samples(120):
            for name, number in places(tasks):
                row = values(tasks[name], number)
                hardest = margin(tasks, name, number)
                if hardest is None:
                    self.assertFalse(is_possible(tasks, name, number, row[0]))
                    found.add(None)
                    continue
                self.assertTrue(is_possible(tasks, name, number, hardest), (tasks.tasks, name, number))
                place = row.index(hardest)
                if place + 1 < len(row):
                    self.assertFalse(is_possible(tasks, name, number, row[place + 1]), (tasks.tasks, name, number))
                found.add((number, place + 1 < len(row)))
        self.assertLessEqual({None} | {(number, True) for number in WORDS}, found)

    def test_all_values_up_to_the_margin_are_possible(self):
        luck = random.Random(161)
        for tasks in samples(40):
            for name, number in places(tasks):
                row = values(tasks[name], number)
                hardest = margin(tasks, name, number)
                end = -1 if hardest is None else row.index(hardest)
                for place in luck.sample(range(len(row)), 6) + list(range(max(0, end - 3), min(end + 4, len(row)))):
                    self.assertIs(is_possible(tasks, name, number, row[place]), place <= end, (tasks.tasks, name, number, row[place]))

    def test_possible_as_told(self):
        # With a second way to find good levels, which tries them all.
        for tasks in samples(16):
            for name, number in places(tasks):
                hardest = margin(tasks, name, number)
                row = values(tasks[name], number)
                place = -1 if hardest is None else row.index(hardest)
                for at in (place, place + 1):
                    if 0 <= at < len(row):
                        changed = with_value(tasks, name, number, row[at])
                        self.assertIs(changed is not None and len(good_ones(changed)) > 0, at == place)

    def test_bounds(self):
        self.assertEqual(margins(EASY), {"a": (100, 117, 100), "b": (16, 2, 1)})
        one = Tasks(make_task("a", 100, 1000, deadline=20000))
        self.assertEqual(margins(one), {"a": (100, 112, 100)})
        self.assertEqual([margin_paper(one, "a", number)[2] for number in ("longest", "gap")], ["bound", "load"])
        self.assertEqual(margin_paper(one, "a", "deadline")[2], ("none", (), "a", ((0, "a", 100),)))
        short = Tasks(make_task("a", 1, 1000, deadline=1))
        self.assertEqual(margins(short), {"a": (1, 2, 1)})
        self.assertEqual(margin_paper(short, "a", "deadline")[2], "bound")
        self.assertEqual(margin_paper(short, "a", "longest")[2][:3], ("none", (), "a"))
        self.assertEqual(margins(NONE), {})

    def test_at_the_bound_the_load_is_not_asked_for(self):
        # A gap of 0 is none of the values; a longest run of 101 is none, though the load would be too great as well.
        tasks = Tasks(make_task("a", 90, 111, deadline=20000))
        self.assertEqual([margin(tasks, "a", "longest"), margin_paper(tasks, "a", "longest")[2]], [99, "load"])
        tasks = Tasks(make_task("a", 90, 112, deadline=20000))
        self.assertEqual([margin(tasks, "a", "longest"), margin_paper(tasks, "a", "longest")[2]], [100, "bound"])
        self.assertIs(is_margin_paper(tasks, "a", "longest", (100, levels_paper(tasks.changed("a", longest=100)), "load")), False)

    def test_the_least_longest_run_is_behind_the_last_section(self):
        for longest in (6, 7, 9):
            tasks = Tasks(make_task("low", longest, 100, (0, 2, "x"), (3, 5, "y"), deadline=100), make_task("top", 2, 50, deadline=5))
            self.assertEqual(margin(tasks, "low", "longest"), 86)
            hard = tasks.changed("low", deadline=7)
            self.assertEqual([margin(hard, "low", "longest"), margin(hard.changed("low", deadline=8), "low", "longest")], [None, 6])
            paper = margin_paper(hard, "low", "longest")
            self.assertEqual((paper[:2], paper[2][0]), ((None, None), "none"))
            self.assertIs(is_margin_paper(hard, "low", "longest", paper), True)
            # At a longest run of 5 the section would be none.
            self.assertTrue(is_levels_paper_told(hard.changed("low", longest=6), paper[2]))
            error = fails(self, NoLevels, at_margin, hard, "low", "longest")
            self.assertTrue(error.paper[0] == "none" and is_levels_paper_told(hard.changed("low", longest=6), error.paper))

    def test_tasks_without_good_levels(self):
        self.assertIs(greatest_levels(HARD), None)
        self.assertEqual(margins(HARD), {"low": (3, None, 11), "top": (None, None, None)})
        for name, number in (("low", "longest"), ("low", "deadline")):
            changed = at_margin(HARD, name, number)
            self.assertEqual(changed, HARD.changed(name, **{number: margin(HARD, name, number)}))
            self.assertIsNotNone(greatest_levels(changed))
        for name, number in (("low", "gap"), ("top", "longest"), ("top", "gap"), ("top", "deadline")):
            easiest = HARD.changed(name, **{number: values(HARD[name], number)[0]})
            error = fails(self, NoLevels, at_margin, HARD, name, number)
            self.assertTrue(error.paper[0] == "none" and is_levels_paper_told(easiest, error.paper))
            self.assertEqual(margin_paper(HARD, name, number), (None, None, levels_paper(easiest)))
        self.assertEqual(margins(NEVER), {"low": (None, None, None), "mid": (None, None, 7), "top": (None, None, None)})

    def test_at_margin(self):
        for tasks in samples(30):
            for name, number in places(tasks):
                hardest = margin(tasks, name, number)
                if hardest is not None:
                    self.assertEqual(at_margin(tasks, name, number), with_value(tasks, name, number, hardest))

    def test_margins_of_all(self):
        for tasks in samples(30):
            found = margins(tasks)
            self.assertEqual(list(found), sorted(tasks.names))
            self.assertEqual(found, {name: tuple([margin(tasks, name, number) for number in WORDS]) for name in tasks.names})
            before = dict(found)
            found["x"] = None
            del found[tasks.names[0]]
            self.assertEqual(margins(tasks), before)

    def test_ten_tasks(self):
        tasks = Tasks(*[make_task(name, 5, 100, deadline=45 + 5 * place) for place, name in enumerate("jihgfedcba")])
        for name, number in (("j", "longest"), ("j", "deadline"), ("a", "longest"), ("e", "gap")):
            paper = margin_paper(tasks, name, number)
            self.assertTrue(is_told(tasks, name, number, paper))
            self.assertIs(is_margin_paper(tasks, name, number, paper), True)


class PaperTest(unittest.TestCase):
    def test_as_told(self):
        ways = set()
        for tasks in samples(80):
            for name, number in places(tasks):
                paper = margin_paper(tasks, name, number)
                self.assertEqual(paper[0], margin(tasks, name, number))
                self.assertTrue(is_told(tasks, name, number, paper), (tasks.tasks, name, number, paper))
                self.assertIs(is_margin_paper(tasks, name, number, paper), True)
                ways.add((number, paper[2] if isinstance(paper[2], str) else paper[0] is None))
        right = {(number, way) for number in WORDS for way in (True, False)} | {("longest", "load"), ("gap", "load")}
        self.assertLessEqual(right, ways)

    def test_one_part_otherwise(self):
        luck = random.Random(162)
        found = {True: 0, False: 0}
        for tasks in samples(60):
            for name, number in places(tasks):
                paper = margin_paper(tasks, name, number)
                for value in [altered(luck, tasks.names, paper) for _ in range(6)] + [paper[:2] + (word,) for word in ("bound", "load")]:
                    told = is_told(tasks, name, number, value)
                    self.assertIs(is_margin_paper(tasks, name, number, value), told, (tasks.tasks, name, number, value))
                    found[told] += 1
        self.assertGreater(min(found.values()), 100)

    def test_other_values_of_the_number(self):
        for tasks, name, number in ((CAR, "log", "longest"), (CAR, "plan", "deadline"), (CAR, "brake", "gap"), (HARD, "low", "deadline")):
            paper = margin_paper(tasks, name, number)
            row = values(tasks[name], number)
            place = row.index(paper[0])
            for at in (0, place - 1, place, place + 1):
                changed = with_value(tasks, name, number, row[at])
                inside = paper[1] if changed is None else levels_paper(changed)
                for beyond in (paper[2], "bound", "load"):
                    self.assertIs(is_margin_paper(tasks, name, number, (row[at], inside, beyond)), at == place and beyond == paper[2])
            # The papers of one number are none of another one.
            for other in WORDS:
                self.assertIs(is_margin_paper(tasks, name, other, paper), other == number)

    def test_papers_inside_with_other_steps_tables_and_plans(self):
        value, inside, outside = margin_paper(CAR, "steer", "deadline")
        changed = CAR.changed("steer", deadline=value)
        steps = tuple([(low, high, shifted(changed, plan, 7)) for low, high, plan in inside[1]])
        tables = {name: (length + 1 if length % changed[name][2] else length, pairs) for name, (length, pairs) in inside[2].items()}
        for paper in (("greatest", steps, inside[2]), ("greatest", inside[1], dict(reversed(list(tables.items()))))):
            self.assertEqual([is_margin_paper(CAR, "steer", "deadline", (value, paper, outside))], [is_levels_paper_told(changed, paper)])
        self.assertGreater(len(steps), 0)
        self.assertIs(is_margin_paper(CAR, "steer", "deadline", (value, ("greatest", steps, inside[2]), outside)), True)
        later = outside[:3] + (shifted(CAR.changed("steer", deadline=value - 1), outside[3], 9),)
        self.assertIs(is_margin_paper(CAR, "steer", "deadline", (value, inside, later)), True)
        # A paper "least" shows good levels, too, and yet is no inside; a "greatest" one is no outside.
        least = levels_paper(changed, least=True)
        self.assertIs(is_margin_paper(CAR, "steer", "deadline", (value, least, outside)), False)
        self.assertIs(is_margin_paper(CAR, "steer", "deadline", (value, inside, inside)), False)
        self.assertIs(is_margin_paper(CAR, "steer", "deadline", (value, outside, outside)), False)

    def test_other_values(self):
        paper = margin_paper(CAR, "brake", "gap")
        none = margin_paper(HARD, "top", "gap")
        for value in PLAIN + OWN + [paper[:2], paper + (None,), list(paper), (paper[1], paper[0], paper[2]), (None,) + paper[1:], (None, None, "load")]:
            self.assertIs(is_margin_paper(CAR, "brake", "gap", value), False, value)
            self.assertIs(is_margin_paper(HARD, "top", "gap", value), False, value)
        for value in PLAIN + OWN:
            for at in range(3):
                self.assertIs(is_margin_paper(CAR, "brake", "gap", paper[:at] + (value,) + paper[at + 1:]), False, (at, value))
                other = none[:at] + (value,) + none[at + 1:]
                self.assertIs(is_margin_paper(HARD, "top", "gap", other), value is None and at < 2, other)
        for value in (0, -1, 1001, 10 ** 39, True, "7", None, 8, 6, 7):
            self.assertIs(is_margin_paper(CAR, "brake", "gap", (value,) + paper[1:]), value == 7 and value is not True, value)

    def test_nothing_that_is_returned_is_state(self):
        paper = margin_paper(CAR, "log", "longest")
        paper[1][2]["log"] = None
        self.assertIs(is_margin_paper(CAR, "log", "longest", paper), False)
        self.assertIs(is_margin_paper(CAR, "log", "longest", margin_paper(CAR, "log", "longest")), True)


class ErrorTest(unittest.TestCase):
    def test_errors_in_order(self):
        calls = (margin, at_margin, margin_paper, lambda *args: is_margin_paper(*args, None))
        for call in calls:
            for value in others(Tasks):
                fails(self, InvalidTasks, call, value, None, None)
            for value in PLAIN + OWN:
                fails(self, UnknownName, call, CAR, value, None, keeps=("name", value))
                fails(self, InvalidOperation, call, CAR, "log", value)
                fails(self, InvalidOperation, call, HARD, "low", value)
            for value in ("Longest", "room", "longest ", "name", "sections", ("gap",), ["gap"], {"gap": 1}):
                fails(self, InvalidOperation, call, CAR, "log", value)
            fails(self, UnknownName, call, NONE, "a", "gap", keeps=("name", "a"))
        for value in others(Tasks):
            fails(self, InvalidTasks, margins, value)


if __name__ == "__main__":
    unittest.main()
