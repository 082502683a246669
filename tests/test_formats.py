"""19.1 and stage 19: texts."""

import random
import re
import unittest

from holdlevels.errors import InvalidLevels, InvalidOperation, InvalidPlan, InvalidTask, InvalidTasks, ParseError
from holdlevels.good.greatest import levels_paper
from holdlevels.good.judged import state_paper
from holdlevels.runs.plans import is_plan
from holdlevels.tasks.levels import Levels
from holdlevels.tasks.tasks import is_task, make_task
from holdlevels.tasks.tasksets import Tasks
from holdlevels.text.formats import chart, format_levels, format_paper, format_plan, format_task, format_tasks
from holdlevels.text.formats import parse_levels, parse_paper, parse_plan, parse_task, parse_tasks
from tests.papers import tight_tasks
from tests.reference import busy_tasks, full_plan, locked_tasks, played, some_levels, some_plan, some_tasks
from tests.samples import BEST, CAR, NONE, NOT_PLANS, OWN, PLAIN, TEN, THREE, fails, others

NAME = "[a-z]{1,8}"
NUMBER = "(?:0|[1-9][0-9]{0,39})"
ABOVE = "[1-9][0-9]{0,39}"
JOB = f"{NUMBER} {NAME} {ABOVE}"
PLAN = f"(?:\n{JOB})*"
TABLES = f"(?:\ntable {NAME} {ABOVE}(?: {NUMBER}-{NUMBER})+)*"
PAPERS = [re.compile(row) for row in (
    f"greatest(?:\nstep {NAME} {NAME}{PLAN})*{TABLES}", f"least(?:\nraise {NAME}{PLAN})*{TABLES}",
    f"none(?:\nstep {NAME} {NAME}{PLAN})*\nlate {NAME}{PLAN}", f"good{TABLES}", f"late {NAME}{PLAN}",
)]
TASK = re.compile(f"{NAME}(?: {NUMBER}){{4}}(?: {NAME} {NUMBER}-{NUMBER})*")
FORTY = 10 ** 40 - 1
WORDS = ("step", "raise", "table", "late", "none", "good", "least", "greatest", "a", "ok")


def is_task_text(text):
    """Return whether a text is one of a task, as 19.1 tells it."""
    if TASK.fullmatch(text) is None:
        return False
    words = text.split(" ")
    sections = tuple([tuple([int(part) for part in word.split("-")]) + (lock,) for lock, word in zip(words[5::2], words[6::2])])
    return is_task((words[0], *[int(word) for word in words[1:5]], sections))


def is_paper_text(text):
    """Return whether a text is one of a paper, as 19.1 tells it."""
    if not [row for row in PAPERS if row.fullmatch(text)]:
        return False
    plans, names = [[]], []
    for line in text.split("\n"):
        words = line.split(" ")
        if line[0].isdigit():
            plans[-1].append((int(words[0]), words[1], int(words[2])))
        else:
            plans.append([])
            if words[0] == "table":
                names.append(words[1])
    return all([rows == sorted(set(rows)) for rows in plans + [names]])


def spoilt(luck, text):
    """Return a text with one sign, word or line otherwise."""
    way = luck.random()
    for gap in ("\n", " "):
        parts = text.split(gap)
        if way < 0.15 and len(parts) > 1:
            at, other = luck.randrange(len(parts)), luck.randrange(len(parts))
            parts[at], parts[other] = parts[other], parts[at]
            return gap.join(parts)
        if way < 0.25:
            at = luck.randrange(len(parts))
            return gap.join(parts[:at] + luck.choice([[], [parts[at]] * 2, ["late a"], ["7"], [""], ["step"]]) + parts[at + 1:])
        way -= 0.25
    at = luck.randrange(len(text) + 1)
    sign = luck.choice(" \n0195-,abyz_+.")
    return luck.choice([text[:at] + sign + text[at:], text[:at] + sign + text[at + 1:], text[:at] + text[at + 1:]])


def some_number(luck, least):
    return luck.choice([least, least + 1, luck.randint(least, 99), FORTY, FORTY - 1, 10 ** 20])


def some_jobs(luck):
    rows = {(some_number(luck, 0), luck.choice(WORDS), some_number(luck, 1)) for _ in range(luck.choice([0, 0, 1, 2, 4]))}
    return tuple(sorted(rows))


def some_paper(luck):
    """Return what has the form of a paper, about no tasks that there are."""
    many = luck.choice([0, 1, 2, 3])
    steps = tuple([(luck.choice(WORDS), luck.choice(WORDS), some_jobs(luck)) for _ in range(many)])
    tables = {luck.choice(WORDS): (some_number(luck, 1), tuple([(some_number(luck, 0), some_number(luck, 0)) for _ in range(luck.randint(1, 3))]))
              for _ in range(luck.choice([0, 1, 2, 5]))}
    raises = tuple([step[1:] for step in steps])
    late = (luck.choice(WORDS), some_jobs(luck))
    return luck.choice([("greatest", steps, tables), ("least", raises, tables), ("none", steps, *late), ("good", tables), ("late", *late)])


def samples(many):
    luck = random.Random(19)
    for at in range(many):
        tasks = locked_tasks(luck) if at % 3 == 0 else luck.choice([some_tasks, busy_tasks])(luck)
        yield luck, tight_tasks(luck, tasks) if at % 2 else tasks


class TaskTextTest(unittest.TestCase):
    def test_examples(self):
        found = [format_levels(BEST), parse_task("brake 2 10 5 1"), format_paper(("none", (), "log", ((0, "log", 6),)))]
        self.assertEqual(found, ["log 0, plan 3, steer 3, brake 3", ("brake", 2, 10, 5, 1, ()), "none\nlate log\n0 log 6"])
        self.assertEqual(format_task(CAR["steer"]), "steer 3 12 11 2 map 0-2")
        self.assertEqual(format_tasks(CAR), "log 6 40 40 5\nplan 4 20 16 4 map 1-3\nsteer 3 12 11 2 map 0-2\nbrake 2 10 5 1")

    def test_tasks_are_read_back(self):
        for luck, tasks in samples(80):
            for task in tasks.tasks:
                self.assertEqual(parse_task(format_task(task)), task)
                self.assertTrue(is_task_text(format_task(task)))
            found = parse_tasks(format_tasks(tasks))
            self.assertEqual([found, found.__class__], [tasks, Tasks])
        for task in (make_task("a", 1, 1, room=0), make_task("abcdefgh", 100, 1000, *[(at, at + 1, "x") for at in range(8)], deadline=20000, room=10 ** 6)):
            self.assertEqual(parse_task(format_task(task)), task)
        self.assertEqual([format_tasks(NONE), parse_tasks(""), parse_tasks(format_tasks(TEN))], ["", NONE, TEN])

    def test_what_is_no_text_of_a_task(self):
        luck = random.Random(191)
        found = {True: 0, False: 0}
        for _, tasks in samples(150):
            for task in tasks.tasks:
                for _ in range(8):
                    text = spoilt(luck, format_task(task))
                    right = is_task_text(text)
                    found[right] += 1
                    if right:
                        self.assertEqual(format_task(parse_task(text)), text)
                    else:
                        fails(self, ParseError, parse_task, text)
        self.assertGreater(min(found.values()), 300)

    def test_wrong_texts_of_tasks(self):
        right = "steer 3 12 11 2 map 0-2"
        for text in (
            "", " ", "steer", "steer 3 12 11", "steer 3 12 11 2 map", "steer 3 12 11 2 map 0", "steer 3 12 11 2 0-2", "steer 3 12 11 2 0-2 map", right + " ",
            " " + right, right + "\n", "\n" + right, right.replace(" ", "  ", 1), right.replace("3", "03"), right.replace("0-2", "00-2"), right.replace("0-2", "0-02"),
            right.replace("0-2", "0-2-1"), right.replace("0-2", "0--2"), right.replace("0-2", "-0-2"), right.replace("0-2", "2-0"), right.replace("0-2", "0-3"),
            right.replace("3", "+3"), right.replace("3", "-3"), right.replace("3", "3.0"), right.replace("3", "1_0"), right.replace("12", "0"), right.replace("steer", "Steer"),
            right.replace("map", "Map"), right.replace("steer", "steersteer"), "steer 101 1000 11 2", "steer 3 1001 11 2", "steer 3 12 20001 2", "steer 3 12 11 1000001",
            "steer 9 12 11 2 b 2-4 a 0-2", "steer 3 12 11 2 map 0-2 map 0-1", "a 9 99 9 9" + " x 0-1" * 2, "steer 3 12 11 " + "1" * 41, "steer 3 12 11 " + "9" * 5000,
            "a 10 99 9 9 " + " ".join([f"x {at}-{at + 1}" for at in range(9)]), right + "\n" + right, "('steer', 3, 12, 11, 2, ())", "steer,3,12,11,2", "steer 3\t12 11 2",
        ):
            fails(self, ParseError, parse_task, text)
            fails(self, ParseError, parse_tasks, (text or " ") + "\nlog 6 40 40 5")
        for value in others(str) + [("log", 6, 40, 40, 5, ()), ["log 6 40 40 5"], b"log 6 40 40 5"]:
            fails(self, ParseError, parse_task, value)
            fails(self, ParseError, parse_tasks, value)
        log = "log 6 40 40 5"
        for text in (log + "\n", "\n" + log, log + "\n\nplan 4 20 16 4", log + "\r\nplan 4 20 16 4", log + "\n" + log, "a 9 10 9 9\nb 1 100 9 9", "a 10 10 10 1",
                     "\n".join([f"{name} 1 1000 9 9" for name in "abcdefghijk"]), log + ", plan 4 20 16 4", "\n", "none"):
            fails(self, ParseError, parse_tasks, text)

    def test_errors_of_formats(self):
        for value in PLAIN + OWN + [list(CAR["log"]), CAR["log"][:5], CAR["log"] + ((),)]:
            fails(self, InvalidTask, format_task, value)
        for value in others(Tasks) + [CAR.tasks]:
            fails(self, InvalidTasks, format_tasks, value)


class LevelsTextTest(unittest.TestCase):
    def test_read_back(self):
        for luck, tasks in samples(60):
            levels = some_levels(luck, tasks)
            self.assertEqual(parse_levels(tasks, format_levels(levels)), levels)
            self.assertEqual(format_levels(levels), ", ".join([f"{name} {levels[name]}" for name in tasks.names]))
        self.assertEqual([format_levels(Levels(NONE)), parse_levels(NONE, "")], ["", Levels(NONE)])
        ten = Levels.greatest(TEN)
        self.assertEqual(parse_levels(TEN, format_levels(ten)), ten)

    def test_wrong_texts(self):
        right = "log 0, plan 3, steer 3, brake 3"
        self.assertEqual(parse_levels(CAR, right), BEST)
        for text in (
            "", "log 0", right + ", ", right + ",", right + " ", right + "\n", " " + right, right.replace(", ", ","), right.replace(", ", " , "), right.replace(", ", ",  "),
            right.replace("log 0", "log  0"), right.replace("log 0", "log 00"), right.replace("log 0", "log -0"), right.replace("log 0", "log 4"), right.replace("plan 3", "plan 0"),
            right.replace("plan 3", "plan 03"), right.replace("plan", "log"), right.replace("plan", "x"), "plan 3, log 0, steer 3, brake 3", right + ", x 3", right.replace("log 0, ", ""),
            right.replace(", ", "\n"), right.replace("log 0", "0 log"), right.replace("log 0", "log"), right.replace("log 0", "log 0 0"), right.replace("log 0", "log True"),
            right.replace("3", "1" * 41), right.replace("3", "9" * 5000), "levels 0 3 3 3", right.replace("log 0", "log +0"),
        ):
            fails(self, ParseError, parse_levels, CAR, text)
        for value in others(str) + [BEST, (0, 3, 3, 3)]:
            fails(self, ParseError, parse_levels, CAR, value)
        for text in (right, " ", "none", "\n"):
            fails(self, ParseError, parse_levels, NONE, text)

    def test_errors_in_order(self):
        for value in others(Tasks):
            fails(self, InvalidTasks, parse_levels, value, None)
            fails(self, InvalidTasks, parse_plan, value, None)
        for value in others(Levels):
            fails(self, InvalidLevels, format_levels, value)


class PlanTextTest(unittest.TestCase):
    def test_read_back(self):
        for luck, tasks in samples(60):
            for plan in (some_plan(luck, tasks), full_plan(luck, tasks, 80)):
                text = format_plan(tasks, plan)
                self.assertEqual(text.split("\n") if plan else [], [f"{tick} {name} {length}" for tick, name, length in plan])
                self.assertEqual(parse_plan(tasks, text), plan)
        self.assertEqual([format_plan(NONE, ()), parse_plan(NONE, ""), parse_plan(CAR, "")], ["", (), ()])
        for plan in (((20000, "log", 6),), ((0, "log", 1),)):
            self.assertEqual(parse_plan(CAR, format_plan(CAR, plan)), plan)

    def test_spoilt_texts(self):
        luck = random.Random(192)
        found = {True: 0, False: 0}
        for _, tasks in samples(80):
            text = format_plan(tasks, some_plan(luck, tasks))
            for _ in range(30):
                value = spoilt(luck, text)
                right = value == "" or re.fullmatch(f"{JOB}{PLAN}", value) is not None
                if right and value:
                    rows = [line.split(" ") for line in value.split("\n")]
                    right = is_plan(tasks, tuple([(int(tick), name, int(length)) for tick, name, length in rows]))
                found[right] += 1
                if right:
                    self.assertEqual(format_plan(tasks, parse_plan(tasks, value)), value)
                else:
                    fails(self, ParseError, parse_plan, tasks, value)
        self.assertGreater(min(found.values()), 100)

    def test_wrong_texts(self):
        right = "0 log 6\n3 brake 1\n3 steer 3"
        self.assertEqual([parse_plan(CAR, right), format_plan(CAR, THREE)], [THREE, right])
        for text in (
            right + "\n", "\n" + right, right + " ", right.replace("\n", "\n\n"), right.replace("\n", "\r\n"), right.replace("0 log", "00 log"), right.replace("0 log", "-0 log"),
            right.replace("log 6", "log 7"), right.replace("log 6", "log 0"), right.replace("log 6", "log"), right.replace("log 6", "log 6 6"), right.replace("log", "x"),
            "3 brake 1\n0 log 6", "3 steer 3\n3 brake 1", "0 log 6\n0 log 6", "0 brake 2\n9 brake 2", "20001 log 1", "1" * 41 + " log 1", "9" * 5000 + " log 1", "log 0 6", "0  log 6", " ",
            "0 log 6, 3 brake 1",
        ):
            fails(self, ParseError, parse_plan, CAR, text)
        for value in others(str) + [THREE, list(THREE)]:
            fails(self, ParseError, parse_plan, CAR, value)

    def test_errors_in_order(self):
        for value in others(Tasks):
            fails(self, InvalidTasks, format_plan, value, None)
        for value in NOT_PLANS:
            fails(self, InvalidPlan, format_plan, CAR, value)


class PaperTextTest(unittest.TestCase):
    def test_real_papers_are_read_back(self):
        words = set()
        for luck, tasks in samples(120):
            for paper in (levels_paper(tasks), levels_paper(tasks, least=True), state_paper(some_levels(luck, tasks)), state_paper(Levels.least(tasks))):
                text = format_paper(paper)
                self.assertTrue(is_paper_text(text), text)
                self.assertEqual(parse_paper(text), paper)
                words.add(paper[0])
        self.assertEqual(words, {"greatest", "least", "none", "good", "late"})

    def test_the_texts_themselves(self):
        tables = {"steer": (8, ((5, 8),)), "log": (20, ((9, 20), (0, 1)))}
        shown = "\ntable log 20 9-20 0-1\ntable steer 8 5-8"
        jobs = ((0, "log", 6), (1, "brake", 2))
        for paper, text in (
            (("greatest", (("log", "plan", jobs), ("a", "b", ())), tables), "greatest\nstep log plan\n0 log 6\n1 brake 2\nstep a b" + shown),
            (("least", (("log", jobs), ("log", ())), tables), "least\nraise log\n0 log 6\n1 brake 2\nraise log" + shown),
            (("none", (("log", "plan", jobs),), "plan", jobs), "none\nstep log plan\n0 log 6\n1 brake 2\nlate plan\n0 log 6\n1 brake 2"),
            (("none", (), "plan", ()), "none\nlate plan"), (("good", tables), "good" + shown), (("good", {}), "good"), (("greatest", (), {}), "greatest"),
            (("least", (), {}), "least"), (("late", "plan", ()), "late plan"), (("late", "plan", jobs), "late plan\n0 log 6\n1 brake 2"),
            (("late", "late", ((0, "late", 1),)), "late late\n0 late 1"),
            (("greatest", (("step", "table", ((3, "step", 1),)),), {"table": (1, ((0, 0),)), "late": (FORTY, ((FORTY, 0),))}),
             f"greatest\nstep step table\n3 step 1\ntable late {FORTY} {FORTY}-0\ntable table 1 0-0"),
        ):
            self.assertEqual([format_paper(paper), parse_paper(text)], [text, paper])
            self.assertTrue(is_paper_text(text))

    def test_any_form_is_read_back(self):
        luck = random.Random(193)
        for _ in range(500):
            paper = some_paper(luck)
            text = format_paper(paper)
            self.assertTrue(is_paper_text(text), text)
            found = parse_paper(text)
            self.assertEqual(found, paper)
            for part in found:
                if isinstance(part, dict):
                    self.assertEqual(list(part), sorted(part))

    def test_spoilt_texts(self):
        luck = random.Random(194)
        found = {True: 0, False: 0}
        for _ in range(700):
            text = format_paper(some_paper(luck))
            for _ in range(6):
                value = spoilt(luck, text)
                right = is_paper_text(value)
                found[right] += 1
                if right:
                    self.assertEqual(format_paper(parse_paper(value)), value)
                else:
                    fails(self, ParseError, parse_paper, value)
        self.assertGreater(min(found.values()), 300)

    def test_wrong_texts(self):
        for text in (
            "", "\n", "greatest\n", "\ngreatest", "greatest ", " greatest", "Greatest", "greatest x", "good x", "least\n0 log 6", "greatest\n0 log 6", "0 log 6", "late", "late ",
            "late plan plan", "late plan\nlate plan", "late plan\nstep a b", "late plan\ntable a 1 0-0", "none", "none\nstep a b", "none\nlate a\nlate a", "none\nlate a\nstep a b",
            "none\nlate a\ntable a 1 0-0", "none\nraise a\nlate a", "greatest\nlate a", "greatest\nraise a", "greatest\nstep a", "greatest\nstep a b c", "greatest\nstep  a b",
            "least\nstep a b", "least\nraise", "least\nraise a b", "least\nstep a", "good\nstep a b", "good\nraise a", "good\nlate a", "good\ntable a", "good\ntable a 1",
            "good\ntable a 0 0-0", "good\ntable a 1 0", "good\ntable a 1 0-", "good\ntable a 1 -0", "good\ntable a 1 0-0-0", "good\ntable a 01 0-0", "good\ntable a 1 0-00",
            "good\ntable a 1 0-0 ", "good\ntable a 1 0-0\n", "good\ntable b 1 0-0\ntable a 1 0-0", "good\ntable a 1 0-0\ntable a 1 0-0", "good\ntable a 1 0-0\n0 a 1",
            "good\ntable A 1 0-0", "good\ntable  1 0-0", "good\ngood", "greatest\ntable a 1 0-0\nstep a b", "late a\n1 a 1\n0 a 1", "late a\n0 a 1\n0 a 1", "late a\n0 a 0",
            "late a\n00 a 1", "late a\n0 a 01", "late a\n0 a", "late a\n0 a 1 1", "late a\n0 A 1", "late a\n0  a 1", "late a\n\n0 a 1", "late a\n-1 a 1", "late a\r\n0 a 1",
            "late abcdefghi", "late a\n" + "1" * 41 + " a 1", "late a\n0 a " + "9" * 5000, "good\ntable a 1 0-" + "1" * 41, "step a b", "raise a", "table a 1 0-0", "none\nlate",
        ):
            self.assertFalse(is_paper_text(text), text)
            fails(self, ParseError, parse_paper, text)
        for value in others(str) + [levels_paper(CAR), ["good"], b"good"]:
            fails(self, ParseError, parse_paper, value)

    def test_what_has_not_the_form(self):
        jobs = ((0, "log", 6), (1, "brake", 2))
        tables = {"log": (20, ((9, 20),))}
        right = [("greatest", (("log", "plan", jobs),), tables), ("least", (("log", jobs),), tables), ("none", (("log", "plan", jobs),), "plan", jobs),
                 ("good", tables), ("late", "log", jobs)]
        wrong_jobs = [list(jobs), jobs[::-1], jobs[:1] * 2, ((-1, "log", 6),), ((0, "log", 0),), ((0, "Log", 6),), ((0, "", 6),), ((0, "log"),), ((True, "log", 6),),
                      ((0, "log", True),), ((0, None, 6),), (("0", "log", 6),), ((0, "log", 6, 1),), ([0, "log", 6],), ("log",), None, {}, "0 log 6"]
        wrong_tables = [(), None, list(tables), {"Log": (20, ((9, 20),))}, {1: (20, ((9, 20),))}, {"log": (0, ((9, 20),))}, {"log": (20, ())}, {"log": (20, [(9, 20)])},
                        {"log": (20, ((9,),))}, {"log": (20, ((9, 20, 1),))}, {"log": (20, ((-1, 20),))}, {"log": (20, ((9, True),))}, {"log": (20, ([9, 20],))}, {"log": 20},
                        {"log": (20,)}, {"log": [20, ((9, 20),)]}, {"log": (True, ((9, 20),))}, {"log": ("20", ((9, 20),))}, {None: (20, ((9, 20),))}, tuple(tables.items())]
        wrong_names = [None, "", "Log", "log ", "a" * 9, 0, ("log",), ["log"], True]
        values = PLAIN + OWN + [list(right[0]), right[0][:2], right[0] + ((),), ("good", tables, ()), ("good",), ("least", (), {}, (), ()), ("greatest", (), {}, (), ()), ("late", "log", (), (), ()), ("none", (), "log", (), ()), ("late",), ("none",) + right[0][1:], ("greatest",) + right[1][1:],
                                ("least",) + right[0][1:], ("late", "log"), ("late", "log", jobs, ()), ("Good", tables), (None, tables), (["good"], tables), ("", tables)]
        values += [(word, steps, tables) for word in ("greatest", "least") for steps in (None, [], list(right[0][1]), {}, "", ("log",), (("log",),), ((jobs,),), ((),))]
        for rows in wrong_jobs:
            values += [("greatest", (("log", "plan", rows),), tables), ("least", (("log", rows),), tables), ("none", (), "log", rows), ("late", "log", rows)]
        for row in wrong_tables:
            values += [("greatest", (), row), ("least", (), row), ("good", row)]
        for name in wrong_names:
            values += [("greatest", ((name, "log", ()),), tables), ("greatest", (("log", name, ()),), tables), ("least", ((name, ()),), tables), ("none", (), name, ()), ("late", name, ())]
        for value in values:
            fails(self, InvalidOperation, format_paper, value)
        for value in right:
            self.assertEqual(parse_paper(format_paper(value)), value)

    def test_the_order_of_a_dict_does_not_matter(self):
        paper = levels_paper(CAR)
        other = ("greatest", paper[1], dict(reversed(list(paper[2].items()))))
        self.assertEqual(format_paper(other), format_paper(paper))
        self.assertEqual(list(other[2]), list(paper[2])[::-1])
        found = parse_paper(format_paper(paper))
        found[2].clear()
        self.assertEqual(parse_paper(format_paper(paper)), paper)


def chart_told(levels, plan):
    """Return the chart, by asking for each sign alone."""
    tasks = levels.tasks
    log, _, starts, ends = played(levels, plan)
    lines = []
    for name in reversed(tasks.names):
        signs = ""
        for tick in range(len(log)):
            jobs = [index for index, job in enumerate(plan) if job[1] == name]
            if log[tick] == name:
                signs += "#"
            elif [index for index in jobs if starts[index] <= tick < ends[index]]:
                signs += "="
            elif [index for index in jobs if plan[index][0] <= tick < starts[index]]:
                signs += "."
            else:
                signs += " "
        lines.append(f"{name:<8} {signs}".rstrip())
    return "\n".join(lines)


class ChartTest(unittest.TestCase):
    def test_example(self):
        found = chart(BEST, ((0, "log", 6), (1, "plan", 4), (2, "brake", 2))).split("\n")
        self.assertEqual(found, ["brake      ...##", "steer", "plan      ####", "log      #======#####"])

    def test_as_told(self):
        signs = set()
        for luck, tasks in samples(100):
            levels = some_levels(luck, tasks)
            for plan in (some_plan(luck, tasks), full_plan(luck, tasks, 60)):
                text = chart(levels, plan)
                self.assertEqual(text, chart_told(levels, plan))
                signs |= set(text)
        self.assertLessEqual(set("#=. "), signs)

    def test_edges(self):
        self.assertEqual([chart(Levels(NONE), ()), chart(BEST, ())], ["", "brake\nsteer\nplan\nlog"])
        one = Tasks(make_task("abcdefgh", 3, 5))
        self.assertEqual(chart(Levels(one, 0), ((2, "abcdefgh", 2), (9, "abcdefgh", 1))), "abcdefgh   ##     #")
        # A job waits while one of its task is started: the started one is shown.
        two = Tasks(make_task("a", 4, 5, deadline=9), make_task("b", 4, 100))
        self.assertEqual(chart(Levels(two, 0, 1), ((0, "a", 4), (2, "b", 4), (5, "a", 4))), "b          ####\na        ##====######")
        self.assertEqual(chart(Levels.greatest(two), ((19990, "a", 4), (19992, "b", 4))), "b" + " " * 10 + " " * 19990 + "..####\na" + " " * 8 + " " * 19990 + "####")

    def test_errors_in_order(self):
        for value in others(Levels):
            fails(self, InvalidLevels, chart, value, None)
        for value in NOT_PLANS:
            fails(self, InvalidPlan, chart, BEST, value)


if __name__ == "__main__":
    unittest.main()
