"""18.1 to 18.3 and stage 18: a desk."""

import random
import unittest

from holdlevels.errors import InvalidEdit, InvalidNumber, NoLevels, NothingToUndo, Overload, TooMany, UnknownName
from holdlevels.good.greatest import greatest_levels, levels_paper
from holdlevels.live.desk import MAX_KEPT, Desk
from holdlevels.margins.growth import interruptions, is_harder, new_interruptions
from holdlevels.room.chains import most_room
from holdlevels.tasks.tasks import make_task
from holdlevels.tasks.tasksets import Tasks
from tests.papers import is_levels_paper_told
from tests.samples import BEST, CAR, NONE, NOT_NUMBERS, OWN, PLAIN, cannot_be_iterated, fails, others

PUTS = (("put", CAR["log"], 0), ("put", CAR["plan"], 1), ("put", CAR["steer"], 2), ("put", CAR["brake"], 3))
SHORT = ("set", CAR.changed("log", longest=3)["log"])
LATE = ("set", CAR.changed("plan", deadline=8)["plan"])
GONE = [("gone", "brake", "log"), ("gone", "plan", "log"), ("gone", "steer", "log")]
NEW = [("new", name, lower) for _, name, lower in GONE]


def car_desk(**more):
    desk = Desk(**more)
    desk.do_all(PUTS)
    return desk


def shown(desk):
    """Return all that a desk shows of itself."""
    return desk.tasks, desk.levels, desk.room, desk.steps, desk.kept, list(desk.news()), str(desk), len(desk)


def behind(case, desk):
    """Return what a desk shows, and all that can be seen by undoing and redoing its steps."""
    rows = [shown(desk)]

    def look(same):
        while same.steps:
            same.undo()
            rows.append(shown(same))
        while True:
            try:
                same.redo()
            except NothingToUndo:
                break
            rows.append(shown(same))

    desk.attempt(look)
    case.assertEqual(shown(desk), rows[0])
    return rows


class Model:
    """A desk told in other words: a list of all states, and the place of the present one."""

    def __init__(self, kept):
        self.rows = [NONE]
        self.place = 0
        self.lost = 0
        self.kept = kept
        self.change = (NONE, NONE)

    def steps(self):
        return self.place - self.lost

    def trim(self):
        self.lost = max(self.lost, self.place - self.kept)

    def go(self, place):
        self.change = (self.rows[self.place], self.rows[place])
        self.place = place
        self.trim()

    def step(self, tasks):
        self.rows = self.rows[:self.place + 1] + [tasks]
        self.go(self.place + 1)

    def news(self):
        one, two = self.change
        pairs = [("gone",) + pair for pair in new_interruptions(one, two)] + [("new",) + pair for pair in new_interruptions(two, one)]
        return sorted(pairs)


def edited(rows, edit):
    """Return the tasks behind an edit, or None, as 18.2 tells it."""
    names = [row[0] for row in rows]
    if edit[0] == "put":
        if edit[1][0] in names or not 0 <= edit[2] <= len(rows):
            return None
        return rows[:edit[2]] + [edit[1]] + rows[edit[2]:]
    name = edit[1][0] if edit[0] == "set" else edit[1]
    if name not in names:
        return None
    place = names.index(name)
    if edit[0] == "drop":
        return rows[:place] + rows[place + 1:]
    if edit[0] == "set":
        return rows[:place] + [edit[1]] + rows[place + 1:]
    if not 0 <= edit[2] <= len(rows) - 1:
        return None
    rest = rows[:place] + rows[place + 1:]
    return rest[:edit[2]] + [rows[place]] + rest[edit[2]:]


def some_edit(luck):
    name = luck.choice("abcde")
    longest = luck.randint(1, 9)
    task = make_task(name, longest, luck.randint(15, 60), deadline=luck.randint(8, 60), room=luck.randint(0, 5))
    return luck.choice([("put", task, luck.randint(0, 3)), ("put", task, luck.randint(0, 3)), ("set", task), ("drop", name), ("move", name, luck.randint(0, 4))])


class DeskTest(unittest.TestCase):
    def test_examples(self):
        desk = Desk()
        self.assertEqual([desk.do_all(PUTS), desk.levels == BEST, desk.room, list(desk.news())], [1, True, 9, []])
        self.assertEqual([desk.do(SHORT), desk.levels.numbers, desk.room, list(desk.news())], [2, (3, 3, 3, 3), 5, GONE])
        self.assertEqual([desk.undo(), list(desk.news())[0], str(desk)], [1, NEW[0], "desk of 4 tasks, 1 steps"])

    def test_a_new_desk(self):
        desk = Desk()
        self.assertEqual([desk.tasks, desk.levels, desk.room, desk.steps, desk.kept], [NONE, greatest_levels(NONE), 0, 0, 100])
        self.assertEqual([list(desk.news()), len(desk), str(desk), MAX_KEPT], [[], 0, "desk of 0 tasks, 0 steps", 1000])
        self.assertEqual([Desk(kept=many).kept for many in (0, 1, 1000)], [0, 1, 1000])

    def test_all_of_it_against_a_model(self):
        luck = random.Random(18)
        steps = refused = 0
        for _ in range(80):
            kept = luck.choice([0, 1, 2, 5, 100])
            desk, model = Desk(kept=kept), Model(kept)
            for _ in range(60):
                way = luck.random()
                if way < 0.6:
                    edits = tuple([some_edit(luck) for _ in range(luck.choice([0, 1, 1, 1, 2, 3]))])
                    rows, error = list(model.rows[model.place].tasks), None
                    for edit in edits:
                        rows = edited(rows, edit) if rows is not None else None
                    if rows is None:
                        error = InvalidEdit
                    elif sum([row[1] / row[2] for row in rows]) > 0.9:
                        error = Overload
                    elif greatest_levels(Tasks(*rows)) is None:
                        error = NoLevels
                    if error is not None:
                        refused += 1
                        fails(self, error, desk.do, *edits)
                    elif edits:
                        steps += 1
                        model.step(Tasks(*rows))
                        self.assertEqual(luck.choice([desk.do_all, lambda all: desk.do(*all)])(edits), model.steps())
                    else:
                        model.go(model.place)
                        self.assertEqual(desk.do(), model.steps())
                elif way < 0.75:
                    many = luck.choice([0, 1, 1, 2, 3])
                    if many > model.steps():
                        fails(self, NothingToUndo, desk.undo, many=many, keeps=("many", many))
                    else:
                        model.go(model.place - many)
                        self.assertEqual(desk.undo(many=many), model.steps())
                elif way < 0.9:
                    many = luck.choice([0, 1, 1, 2, 3])
                    if many > len(model.rows) - 1 - model.place:
                        fails(self, NothingToUndo, desk.redo, many=many, keeps=("many", many))
                    else:
                        model.go(model.place + many)
                        self.assertEqual(desk.redo(many=many), model.steps())
                else:
                    model.kept = luck.choice([0, 1, 2, 5, 100])
                    model.trim()
                    if luck.random() < 0.5:
                        desk.kept = model.kept
                    else:
                        desk.keep(model.kept)
                tasks = model.rows[model.place]
                levels = greatest_levels(tasks)
                self.assertEqual(shown(desk), (
                    tasks, levels, most_room(levels), model.steps(), model.kept, model.news(),
                    f"desk of {len(tasks)} tasks, {model.steps()} steps", len(tasks),
                ))
        self.assertGreater(min(steps, refused), 200)

    def test_kept_0_1_and_1000(self):
        desk = Desk(kept=0)
        self.assertEqual([desk.do(PUTS[0]), desk.steps, list(desk.news())], [0, 0, []])
        fails(self, NothingToUndo, desk.undo, keeps=("many", 1))
        desk = Desk(kept=1)
        self.assertEqual([desk.do(PUTS[0]), desk.do(PUTS[1]), desk.undo(), desk.tasks.names, desk.redo()], [1, 1, 0, ("log",), 1])
        desk = Desk(kept=1000)
        desk.do(("put", make_task("a", 1, 2, room=0), 0))
        for room in range(1, 1003):
            desk.do(("set", make_task("a", 1, 2, room=room)))
        self.assertEqual([desk.steps, desk.undo(many=1000), desk.room, desk.redo(many=999), desk.room], [1000, 0, 2, 999, 1001])
        fails(self, NothingToUndo, desk.redo, many=2, keeps=("many", 2))

    def test_kept_is_assigned_while_steps_are_undone(self):
        for way in (lambda desk, many: setattr(desk, "kept", many), lambda desk, many: desk.keep(many)):
            desk = Desk()
            for edit in PUTS:
                desk.do(edit)
            desk.undo(many=2)
            way(desk, 1)
            self.assertEqual([desk.kept, desk.steps, desk.tasks.names], [1, 1, ("log", "plan")])
            way(desk, 0)
            self.assertEqual([desk.steps, desk.redo(many=2), desk.steps, desk.tasks], [0, 0, 0, CAR])
            way(desk, 1000)
            self.assertEqual([desk.steps, desk.do(SHORT), desk.kept], [0, 1, 1000])
            way(desk, 2)
            self.assertEqual([desk.steps, desk.undo(), desk.steps], [1, 0, 0])
            for value in [-1, 1001, 10 ** 39] + NOT_NUMBERS:
                before = behind(self, desk)
                fails(self, InvalidNumber, way, desk, value, keeps=("value", value))
                self.assertEqual(behind(self, desk), before)

    def test_tasks_between_the_edits_need_nothing(self):
        desk = Desk()
        heavy = [("put", make_task(name, 9, 10), 0) for name in "abcdefghijklm"]
        drops = [("drop", name) for name in "abcdefghijklm"]
        # Thirteen tasks, more than 9/10, and none with good levels between; four good ones behind.
        self.assertEqual([desk.do(*heavy, *PUTS, *drops), desk.tasks, desk.levels], [1, CAR, BEST])
        self.assertEqual([desk.do(LATE, ("set", CAR["plan"])), desk.tasks, list(desk.news())], [2, CAR, []])
        self.assertEqual([desk.do(("drop", "plan"), ("put", CAR["plan"], 0), ("move", "plan", 1)), desk.tasks, list(desk.news())], [3, CAR, []])

    def test_the_tasks_behind_all_edits(self):
        desk = car_desk()
        eleven = [("put", make_task(name, 1, 1000, deadline=900), 0) for name in "abcdefghijk"]
        before = behind(self, desk)
        fails(self, TooMany, desk.do, *eleven, keeps=("limit", 10))
        fails(self, TooMany, desk.do_all, tuple(eleven[:7]), keeps=("limit", 10))
        heavy = ("put", make_task("x", 9, 10, deadline=1), 4)
        fails(self, Overload, desk.do, heavy, keeps=("share", (17, 10)))
        fails(self, TooMany, desk.do, heavy, *eleven)
        error = fails(self, NoLevels, desk.do, LATE)
        tasks = CAR.changed("plan", deadline=8)
        self.assertTrue(error.paper[0] == "none" and is_levels_paper_told(tasks, error.paper))
        self.assertEqual(error.paper, levels_paper(tasks))
        fails(self, Overload, desk.do, LATE, heavy)
        self.assertEqual(behind(self, desk), before)
        # An edit that is not possible comes ahead of them all.
        fails(self, InvalidEdit, desk.do, heavy, *eleven, ("drop", "z"))
        self.assertEqual([desk.do(*eleven[:6]), len(desk)], [2, 10])

    def test_edits_that_are_none_or_not_possible(self):
        desk = car_desk()
        before = behind(self, desk)
        log, other = CAR["log"], make_task("x", 1, 100)
        wrong = PLAIN + OWN + NOT_NUMBERS + [
            ("put", log, 0), ("put", other), ("put", other, -1), ("put", other, 5), ("put", other, True), ("put", other, "0"), ("put", other, None),
            ("put", other, 0, 0), ("put", list(other), 0), ("put", "x", 0), ("put", None, None), ("put",), ("put", 0, other), ("Put", other, 0),
            ["put", other, 0], ("drop", "x"), ("drop",), ("drop", "log", 0), ("drop", None), ("drop", ["log"]), ("drop", log), ("drop", ("log",)), ("drop", CAR),
            ("set", other), ("set", "log"), ("set", log, 0), ("set",), ("set", None), ("set", list(log)), ("set", log[:5]), ("move", "log"),
            ("move", "log", 4), ("move", "log", -1), ("move", "log", True), ("move", "log", None), ("move", "x", 0), ("move", None, 0), ("move", 0, "log"),
            ("move", ["log"], 0), ("move", "log", 0, 0), ("move",), (None, "log"), (["drop"], "log"), (("drop",), "log"), ("keep", "log"), ("drop ", "log"),
            (True, "log"), ({}, "log"), (CAR, "log"), (0,), (), "drop", ("put", make_task("x", 1, 100), 10 ** 39), ("", "log"), (10 ** 39, "log"),
        ]
        for edit in wrong:
            fails(self, InvalidEdit, desk.do, edit)
            fails(self, InvalidEdit, desk.do, SHORT, edit)
            fails(self, InvalidEdit, desk.do_all, (edit, SHORT))
            fails(self, InvalidEdit, desk.do, LATE, edit)
        for value in others(tuple) + [list(PUTS), "put", ["put", other, 0]]:
            fails(self, InvalidEdit, desk.do_all, value)
        self.assertEqual(behind(self, desk), before)
        empty = Desk()
        for edit in (("drop", "log"), ("move", "log", 0), ("set", log), ("put", log, 1)):
            fails(self, InvalidEdit, empty.do, edit)
        # What is possible depends on the edits before.
        self.assertEqual([empty.do(("put", log, 0), ("put", other, 1), ("move", "log", 1), ("drop", "x"), ("set", log), ("move", "log", 0)), empty.tasks.names], [1, ("log",)])
        fails(self, InvalidEdit, empty.do, ("drop", "log"), ("drop", "log"))
        self.assertEqual([empty.do(("drop", "log")), len(empty)], [2, 0])

    def test_without_edits_there_is_no_step(self):
        desk = car_desk()
        desk.do(SHORT)
        desk.undo()
        self.assertEqual([list(desk.news()), desk.do(), list(desk.news()), desk.steps], [NEW, 1, [], 1])
        self.assertEqual([desk.do_all(()), desk.redo(), list(desk.news())], [1, 2, GONE])
        # An edit that changes nothing is a step; it forgets the undone ones.
        desk.undo()
        self.assertEqual([desk.do(("set", CAR["log"])), list(desk.news()), desk.tasks], [2, [], CAR])
        fails(self, NothingToUndo, desk.redo, keeps=("many", 1))

    def test_undo_and_redo(self):
        desk = Desk()
        for edit in PUTS:
            desk.do(edit)
        self.assertEqual([desk.undo(many=3), desk.tasks.names, desk.redo(many=2), desk.tasks.names], [1, ("log",), 3, ("log", "plan", "steer")])
        self.assertEqual([desk.undo(), desk.redo(many=2), desk.tasks], [2, 4, CAR])
        before = behind(self, desk)
        for call in (desk.undo, desk.redo):
            for value in [-1, -10 ** 39] + NOT_NUMBERS:
                fails(self, InvalidNumber, call, many=value, keeps=("value", value))
            for many in (5, 10 ** 39):
                fails(self, NothingToUndo, call, many=many, keeps=("many", many))
        self.assertEqual(behind(self, desk), before)
        self.assertEqual([desk.undo(many=0), desk.redo(many=0), desk.undo(many=4), desk.undo(many=0), len(desk)], [4, 4, 0, 0, 0])
        fails(self, NothingToUndo, desk.undo, keeps=("many", 1))
        self.assertEqual([desk.do(("put", CAR["brake"], 0)), desk.tasks.names], [1, ("brake",)])
        fails(self, NothingToUndo, desk.redo, many=1, keeps=("many", 1))


class NewsTest(unittest.TestCase):
    def test_of_the_last_call_that_returned(self):
        desk = car_desk()
        desk.do(SHORT)
        self.assertEqual(list(desk.news()), GONE)
        fails(self, NoLevels, desk.do, LATE)
        fails(self, InvalidEdit, desk.do, ("drop", "x"))
        fails(self, NothingToUndo, desk.redo)
        desk.keep(7)
        desk.kept = 8
        self.assertEqual([list(desk.news()), list(desk.news())], [GONE, GONE])
        desk.undo()
        self.assertEqual(list(desk.news()), NEW)
        desk.redo()
        self.assertEqual(list(desk.news()), GONE)
        desk.undo(many=0)
        self.assertEqual(list(desk.news()), [])

    def test_of_several_steps_at_once(self):
        desk = car_desk()
        desk.do(SHORT)
        desk.do(("set", CAR.changed("brake", deadline=3)["brake"]))
        one = desk.levels
        desk.undo(many=2)
        rows = {(name, lower) for lower in CAR.names for name in one.interrupters(lower)}
        right = sorted([("gone", *pair) for pair in rows - set(interruptions(CAR))] + [("new", *pair) for pair in set(interruptions(CAR)) - rows])
        self.assertEqual(list(desk.news()), right)
        self.assertEqual({row[0] for row in right}, {"gone", "new"})

    def test_only_of_tasks_that_are_there_before_and_behind(self):
        desk = car_desk()
        desk.do(("drop", "log"))
        self.assertEqual(list(desk.news()), [])
        desk.undo()
        self.assertEqual(list(desk.news()), [])
        desk.do(("drop", "log"), ("put", SHORT[1], 0))
        self.assertEqual(list(desk.news()), GONE)

    def test_is_a_generator(self):
        desk = car_desk()
        desk.do(SHORT)
        found = desk.news()
        self.assertIs(iter(found), found)
        self.assertEqual([next(found), next(found), list(desk.news()), list(found)], [GONE[0], GONE[1], GONE, GONE[2:]])

    def test_harder_tasks_lose_nothing(self):
        luck = random.Random(181)
        harder = 0
        for _ in range(40):
            desk = Desk()
            for _ in range(20):
                before = desk.tasks
                try:
                    desk.do(some_edit(luck))
                except (InvalidEdit, Overload, NoLevels):
                    continue
                if is_harder(desk.tasks, before):
                    harder += 1
                    self.assertNotIn("gone", [row[0] for row in desk.news()])
        self.assertGreater(harder, 100)

    def test_the_levels_depend_on_the_tasks_alone(self):
        luck = random.Random(182)
        for _ in range(30):
            desk = Desk()
            for _ in range(15):
                try:
                    desk.do(some_edit(luck), some_edit(luck))
                except (InvalidEdit, Overload, NoLevels):
                    pass
            self.assertEqual(desk.levels, greatest_levels(desk.tasks))
            other = Desk()
            other.do(*[("put", task, 0) for task in desk.tasks.tasks[::-1]])
            self.assertEqual([other == desk, other.levels, other.room], [True, desk.levels, desk.room])


class TrialTest(unittest.TestCase):
    def mess(self, desk):
        desk.do(SHORT)
        desk.undo(many=1)
        desk.do(("drop", "log"))
        desk.kept = 3
        desk.do(("drop", "plan"))
        return len(desk)

    def test_all_is_as_before(self):
        for ready in (lambda desk: None, lambda desk: desk.do(SHORT), lambda desk: (desk.do(SHORT), desk.undo())):
            desk = car_desk(kept=5)
            ready(desk)
            before = behind(self, desk)
            with desk.trial() as same:
                self.assertIs(same, desk)
                self.assertEqual(self.mess(same), 2)
                self.assertEqual(desk.kept, 3)
            self.assertEqual(behind(self, desk), before)
            self.assertEqual(desk.attempt(self.mess), 2)
            self.assertEqual(behind(self, desk), before)
            block = desk.trial()
            with block:
                desk.do(SHORT)
                inside = shown(desk)
                with block:
                    desk.do(("drop", "log"))
                self.assertEqual(shown(desk), inside)
            self.assertEqual(behind(self, desk), before)

    def test_attempts_in_one_another_that_end_by_errors(self):
        desk = car_desk()
        desk.do(SHORT)
        desk.undo()
        before = behind(self, desk)

        def outer(same):
            same.do(SHORT)
            inside = behind(self, same)
            for action, error in (
                (lambda one: one.do(("drop", "log"), ("drop", "log")), InvalidEdit), (lambda one: (one.undo(), one.undo(many=9)), NothingToUndo),
                (lambda one: (one.keep(0), 1 // 0), ZeroDivisionError),
            ):
                fails(self, error, same.attempt, action)
                self.assertEqual(behind(self, same), inside)
            return same.attempt(lambda one: one.do(LATE))

        fails(self, NoLevels, desk.attempt, outer)
        self.assertEqual(behind(self, desk), before)
        with self.assertRaises(KeyError):
            with desk.trial():
                desk.do(("drop", "log"))
                raise KeyError("x")
        self.assertEqual(behind(self, desk), before)

    def test_twin(self):
        desk = car_desk(kept=7)
        desk.do(SHORT)
        desk.undo()
        other = desk.twin()
        before = behind(self, desk)
        self.assertEqual([behind(self, other), other == desk, other.kept], [before, True, 7])
        self.mess(other)
        self.assertEqual(behind(self, desk), before)
        self.assertNotEqual(other, desk)
        again = desk.twin()
        desk.redo()
        self.assertEqual([behind(self, again), desk.tasks != again.tasks], [before, True])


class OtherTest(unittest.TestCase):
    def test_asking_for_tasks(self):
        desk = car_desk()
        self.assertEqual([desk["plan"], "plan" in desk, "x" in desk, len(desk)], [CAR["plan"], True, False, 4])
        for value in PLAIN + OWN:
            self.assertIs(value in desk, False, value)
            fails(self, UnknownName, lambda: desk[value], keeps=("name", value))
            fails(self, UnknownName, lambda: Desk()[value], keeps=("name", value))

    def test_equal(self):
        desk, other = car_desk(), Desk(kept=3)
        for edit in PUTS:
            other.do(edit)
        self.assertTrue(desk == other and not desk != other)
        other.do(SHORT)
        self.assertTrue(desk != other and not desk == other)
        other.undo()
        self.assertEqual(desk, other)
        light = Desk()
        light.do(("put", CAR["brake"], 0), ("put", CAR["steer"], 1))
        other = light.twin()
        light.do(("move", "brake", 1))
        self.assertTrue(light != other)
        for value in PLAIN + OWN:
            self.assertIs(desk == value, False)
            self.assertIs(desk != value, True)

    def test_cannot_be_iterated(self):
        cannot_be_iterated(self, car_desk())
        cannot_be_iterated(self, Desk())

    def test_errors_of_a_new_desk(self):
        for value in [-1, 1001, 10 ** 39] + NOT_NUMBERS:
            fails(self, InvalidNumber, Desk, kept=value, keeps=("value", value))

    def test_what_is_returned_gives_no_access(self):
        desk = car_desk()
        before = behind(self, desk)
        desk.tasks.locks["map"] = None
        desk.levels.tasks.locks.clear()
        self.assertEqual(behind(self, desk), before)
        rows = list(PUTS)
        desk = Desk()
        desk.do_all(tuple(rows))
        del rows[:]
        self.assertEqual(desk.tasks, CAR)


if __name__ == "__main__":
    unittest.main()
