"""20.1, 20.2 and stage 20: a shell."""

import random
import unittest

from holdlevels.answers.worst import worst_answer
from holdlevels.errors import InvalidCommand, InvalidEdit, InvalidNumber, InvalidOperation, InvalidPlan, InvalidTask, NoLevels, NothingToUndo
from holdlevels.errors import Overload, ParseError, TooMany, UnknownName
from holdlevels.live.desk import Desk
from holdlevels.margins.margins import margin
from holdlevels.room.threads import is_thread_paper, may_share
from holdlevels.runs.machine import Machine
from holdlevels.runs.runs import Run
from holdlevels.tasks.levels import Levels
from holdlevels.tasks.tasks import make_task
from holdlevels.text.formats import format_levels, format_task, format_tasks
from holdlevels.text.shell import Shell
from tests.samples import BEST, CAR, NONE, OWN, PLAIN, cannot_be_iterated, fails, others

LINES = ("put 0 log 6 40 40 5", "put 1 plan 4 20 16 4 map 1-3", "put 2 steer 3 12 11 2 map 0-2", "put 3 brake 2 10 5 1")
WORKS = ("release log", "release log 3", "tick 1", "tick 0", "back 0", "stack", "answers")
QUESTIONS = ("tasks", "levels", "room", "threads", "worst log", "may plan log", "margin log gap", "start")


def car_shell():
    shell = Shell()
    for line in LINES:
        shell.run(line)
    return shell


def shown(shell):
    """Return all that a shell shows of itself and of its machine."""
    desk = shell.desk()
    rows = [shell.log, len(shell), str(shell), shell.levels, desk.steps, desk.kept, list(desk.news())]
    if "no machine" not in str(shell):
        rows += [shell.run(line) for line in ("stack", "answers", "back 0")]
    return rows


class CommandTest(unittest.TestCase):
    def test_examples(self):
        shell = Shell()
        right = ["ok", "ok", "ok", "new plan log, new steer log", "log 0, plan 3, steer 3, brake 3", "20"]
        self.assertEqual(list(shell.run_all(LINES + ("levels", "worst log"))), right)
        lines = ("start", "release log", "tick 2", "release brake", "tick 3", "stack", "may steer plan")
        self.assertEqual(list(shell.run_all(lines)), ["ok", "ok", "log log", "ok", "brake brake log", "log", "no"])
        self.assertEqual([shell.log, str(shell), len(shell)], [LINES, "shell of 4 tasks, machine at tick 5", 4])

    def test_changes_of_the_desk(self):
        shell = car_shell()
        self.assertEqual(shell.run("set log 3 40 40 5"), "gone brake log, gone plan log, gone steer log")
        self.assertEqual([shell.run("undo 1"), shell.run("redo 1"), shell.run("undo 0"), shell.run("redo 0")], [
            "new brake log, new plan log, new steer log", "gone brake log, gone plan log, gone steer log", "ok", "ok"])
        self.assertEqual([shell.run("drop log"), shell.run("move plan 1"), shell.run("move plan 0"), shell.levels.tasks.names], ["ok", "ok", "ok", CAR.names[1:]])
        self.assertEqual([shell.run("undo 8"), shell.run("tasks"), shell.run("redo 4"), shell.run("tasks")], ["ok", "none", "ok", format_tasks(CAR)])
        self.assertEqual(shell.log, LINES + ("set log 3 40 40 5", "undo 1", "redo 1", "undo 0", "redo 0", "drop log", "move plan 1", "move plan 0", "undo 8", "redo 4"))
        shell = Shell()
        self.assertEqual([shell.run("put 0 a 1 2 2 0"), shell.run("put 0 b 1 1000 20000 1000000"), shell.run("tasks")], ["ok", "ok", "b 1 1000 20000 1000000\na 1 2 2 0"])

    def test_questions(self):
        shell = car_shell()
        self.assertEqual([shell.run("tasks"), shell.run("levels"), shell.run("room")], [format_tasks(CAR), format_levels(BEST), "9"])
        for name in CAR.names:
            self.assertEqual(shell.run(f"worst {name}"), str(worst_answer(BEST, name)))
            for other in CAR.names:
                self.assertEqual(shell.run(f"may {name} {other}"), "yes" if BEST.may_interrupt(name, other) else "no")
            for number in ("longest", "gap", "deadline"):
                self.assertEqual(shell.run(f"margin {name} {number}"), str(margin(CAR, name, number)))
        groups = tuple([tuple(group.split(" ")) for group in shell.run("threads").split(" / ")])
        self.assertIs(is_thread_paper(BEST, ("threads", groups, ("log", "plan"))), True)
        self.assertEqual(len(shell.log), 4)
        empty = Shell()
        self.assertEqual([empty.run(line) for line in ("tasks", "levels", "room", "threads")], ["none", "none", "0", "none"])
        # Without good levels a margin would be none; here the tasks have some: so there always is one.
        self.assertNotIn("none", [shell.run(f"margin {name} gap") for name in CAR.names])

    def test_the_machine(self):
        shell = car_shell()
        self.assertEqual([shell.run("start"), shell.run("stack"), shell.run("answers"), shell.run("tick 0"), shell.run("back 0"), str(shell)], [
            "ok", "none", "none", "none", "0", "shell of 4 tasks, machine at tick 0"])
        self.assertEqual([shell.run("tick 3"), shell.run("release brake"), shell.run("release log 2"), shell.run("tick 5"), shell.run("answers")], [
            "- - -", "ok", "ok", "brake brake log log -", "2 4"])
        self.assertEqual([shell.run("back 4"), shell.run("stack"), shell.run("answers"), shell.run("back 6"), shell.run("tick 1")], ["6", "brake", "2 4", "0", "-"])
        # The answers are those of the whole run, however far the machine has come.
        shell.run("start")
        for line in ("release log", "tick 1", "release plan", "tick 1", "release brake"):
            shell.run(line)
        self.assertEqual([shell.run("stack"), shell.run("answers"), shell.run("tick 2"), shell.run("stack")], ["log plan", "12 4 5", "plan plan", "log plan"])
        run = Run(BEST, ((0, "log", 6), (1, "plan", 4), (2, "brake", 2)))
        self.assertEqual(run.answers, (12, 4, 5))
        self.assertEqual([shell.run("start"), shell.run("back 0"), str(shell)], ["ok", "0", "shell of 4 tasks, machine at tick 0"])

    def test_the_machine_is_taken_away(self):
        for line in ("put 0 x 1 100 100 1", "set log 6 41 40 5", "drop log", "move log 0", "undo 1", "undo 0", "redo 0"):
            shell = car_shell()
            shell.run("start")
            for other in QUESTIONS[:-1] + ("release log", "tick 1"):
                shell.run(other)
            self.assertEqual(str(shell), "shell of 4 tasks, machine at tick 1")
            for wrong in ("put 0 log 1 100 100 1", "set x 1 100 100 1", "drop x", "move log 9", "undo 9", "redo 9", "put 0 x 1", "x"):
                with self.assertRaises(Exception):
                    shell.run(wrong)
            self.assertEqual([str(shell), shell.run("stack"), shell.log], ["shell of 4 tasks, machine at tick 1", "log", LINES])
            shell.run(line)
            self.assertEqual([str(shell)[-10:], shell.log], ["no machine", LINES + (line,)])
            for other in WORKS:
                fails(self, InvalidOperation, shell.run, other)

    def test_a_tick_that_raises_an_error_runs_nothing(self):
        shell = car_shell()
        shell.run("start")
        shell.run("release log")
        before = shown(shell)
        for many in (40001, 99999):
            fails(self, TooMany, shell.run, f"tick {many}", keeps=("limit", 40000))
            self.assertEqual(shown(shell), before)
        self.assertEqual([len(shell.run("tick 39999").split(" ")), shell.run("tick 1"), shell.run("tick 0"), str(shell)], [
            39999, "-", "none", "shell of 4 tasks, machine at tick 40000"])
        fails(self, TooMany, shell.run, "tick 1", keeps=("limit", 40000))
        self.assertEqual([shell.run("back 40000"), shell.run("stack")], ["1", "none"])

    def test_lines_that_are_no_commands(self):
        shell = car_shell()
        for ready in (lambda: None, lambda: shell.run("start")):
            ready()
            before = shown(shell)
            for line in others(str) + ["", " ", "x", "Tasks", "tasks ", " tasks", "tasks\n", "tasks tasks", "levels 0", "room log", "threads 1", "start 0", "stack x", "answers 1",
                                       "put", "put 0", "put 0 ", "put x log 6 40 40 5", "put -1 x", "put 00 x", "put 01 x", "put 100000 x", "put 0.0 x", "put +1 x", "put  0 x", "put 0  x",
                                       "put x", "set", "set ", "set  x", "drop", "drop ", "drop  log", "drop log ", "drop log plan", "drop log\n", "move", "move log", "move log x", "move 0 log",
                                       "move log 00", "move log -1", "move log 100000", "move log 1 ", "move  log 1", "move log  1", "undo", "undo x", "undo -1", "undo 01", "undo 100000",
                                       "undo 1 1", "undo 1 ", "redo", "redo x", "redo 1.0", "worst", "worst log plan", "worst ", "may", "may log", "may log ", "may log plan x", "may  log", "margin",
                                       "margin log", "margin log room", "margin log Gap", "margin log gap ", "margin gap", "margin log gap gap", "release", "release ", "release log x",
                                       "release log 01", "release log -1", "release log 1 1", "release log 100000", "release log ", "tick", "tick x", "tick 01", "tick 100000", "tick 1\n", "back",
                                       "back x", "back 1 1", "release\nlog", "drop\nlog", "trial", "news", "keep 1", "undo 1\nundo 1", "put\t0 x"]:
                fails(self, InvalidCommand, shell.run, line)
            self.assertEqual(shown(shell), before)

    def test_texts_of_no_tasks(self):
        shell = car_shell()
        before = shown(shell)
        for text in ("x", "x 1", "log 6 40 40", "log 6 40 40 5 ", "log 6 40 40 5\n", "log  6 40 40 5", "log 06 40 40 5", "Log 6 40 40 5", "log 6 40 40 5 map", "log 101 400 400 5", "log 6 40 40 5 x 0-6"):
            for line in (f"put 0 {text}", f"put 99999 {text}", f"set {text}"):
                fails(self, ParseError, shell.run, line)
        # A line end is none between words, but is looked at as a part of the text of the task.
        for line in ("set log\n6 40 40 5", "set \n", "put 0 log 6 40 40 5\nplan 4 20 16 4"):
            fails(self, ParseError, shell.run, line)
        # What is ahead of the task comes first.
        for line in ("put x x", "put 0  x", "put 100000 x 1", "Put 0 x"):
            fails(self, InvalidCommand, shell.run, line)
        self.assertEqual(shown(shell), before)

    def test_errors_of_what_is_called(self):
        shell = car_shell()
        before = shown(shell)
        for line, error, keeps in (
            ("put 0 log 6 40 40 5", InvalidEdit, None), ("put 5 x 1 100 100 1", InvalidEdit, None), ("put 99999 x 1 100 100 1", InvalidEdit, None), ("set x 1 100 100 1", InvalidEdit, None),
            ("drop x", InvalidEdit, None), ("drop Log!", InvalidEdit, None), ("move log 4", InvalidEdit, None), ("move x 0", InvalidEdit, None), ("put 0 x 9 10 10 1", Overload, ("share", (17, 10))),
            ("set plan 4 20 8 4 map 1-3", NoLevels, None), ("undo 5", NothingToUndo, ("many", 5)), ("redo 1", NothingToUndo, ("many", 1)), ("undo 99999", NothingToUndo, ("many", 99999)),
            ("worst x", UnknownName, ("name", "x")), ("worst 0", UnknownName, ("name", "0")), ("may x y", UnknownName, ("name", "x")), ("may log y", UnknownName, ("name", "y")),
            ("margin x gap", UnknownName, ("name", "x")),
        ):
            fails(self, error, shell.run, line, keeps=keeps)
            self.assertEqual(shown(shell), before)
        for place in range(6):
            shell.run(f"put 0 {'abcdef'[place]} 1 1000 1000 0")
        fails(self, TooMany, shell.run, "put 0 x 1 1000 1000 0", keeps=("limit", 10))
        shell.run("start")
        shell.run("release log")
        before = shown(shell)
        for line, error, keeps in (
            ("release x", UnknownName, ("name", "x")), ("release x 0", UnknownName, ("name", "x")), ("release log 0", InvalidNumber, ("value", 0)), ("release log 7", InvalidNumber, ("value", 7)),
            ("release log", InvalidPlan, None), ("release log 1", InvalidPlan, None), ("back 2", NothingToUndo, ("many", 2)), ("back 99999", NothingToUndo, ("many", 99999)),
        ):
            fails(self, error, shell.run, line, keeps=keeps)
            self.assertEqual(shown(shell), before)

    def test_no_machine_comes_ahead_of_what_is_called(self):
        shell = car_shell()
        for line in WORKS + ("release x", "release log 0", "back 9", "tick 99999"):
            fails(self, InvalidOperation, shell.run, line)
        for line in ("release", "tick", "back x", "stack 1"):
            fails(self, InvalidCommand, shell.run, line)


class ShellTest(unittest.TestCase):
    def test_run_all_is_a_generator(self):
        shell = Shell()
        found = shell.run_all(LINES + ("drop x", "levels"))
        self.assertIs(iter(found), found)
        self.assertEqual(len(shell), 0)
        self.assertEqual([next(found), len(shell), shell.run("tasks"), next(found), len(shell)], ["ok", 1, "log 6 40 40 5", "ok", 2])
        self.assertEqual([next(found), next(found), len(shell)], ["ok", "new plan log, new steer log", 4])
        fails(self, InvalidEdit, next, found)
        self.assertEqual([list(found), len(shell), list(shell.run_all(()))], [[], 4, []])
        for value in others(tuple) + [list(LINES), "tasks"]:
            found = shell.run_all(value)
            fails(self, InvalidCommand, next, found)
        for value in PLAIN + OWN:
            found = shell.run_all(("tasks", value, "tasks"))
            self.assertEqual(next(found), format_tasks(CAR))
            fails(self, InvalidCommand, next, found)

    def test_works_on_the_desk_itself(self):
        desk = Desk(kept=2)
        shell = Shell(desk)
        shell.run(LINES[0])
        self.assertEqual([desk.tasks.names, desk.steps, shell.levels], [("log",), 1, desk.levels])
        desk.do(("put", make_task("x", 1, 100), 0))
        self.assertEqual([shell.run("tasks"), shell.log, str(shell)], ["x 1 100 100 1\nlog 6 40 40 5", LINES[:1], "shell of 2 tasks, no machine"])
        self.assertEqual([shell.run("undo 1"), len(desk)], ["ok", 1])
        other = Shell(desk)
        other.run("undo 1")
        self.assertEqual([shell.run("tasks"), len(other), len(shell), shell.levels], ["none", 1, 2, Levels(NONE)])

    def test_the_desk_that_is_returned_is_a_twin(self):
        shell = car_shell()
        desk = shell.desk()
        self.assertEqual([desk.tasks, desk.steps, list(desk.news())], [CAR, 4, [("new", "plan", "log"), ("new", "steer", "log")]])
        desk.do(("drop", "log"))
        self.assertEqual([shell.levels, shell.desk().tasks], [BEST, CAR])

    def test_other_kinds_of_desks(self):
        for value in others(type(None)) + [Desk, (), Machine(BEST)]:
            fails(self, InvalidOperation, Shell, value)
        self.assertEqual([str(Shell(None)), str(Shell(desk=Desk())), Shell().log, len(Shell())], ["shell of 0 tasks, no machine"] * 2 + [(), 0])

    def test_cannot_be_iterated(self):
        cannot_be_iterated(self, car_shell())

    def test_side_by_side_with_a_desk_and_a_machine(self):
        luck = random.Random(20)
        done = {}
        for _ in range(25):
            shell, desk, machine, log = Shell(), Desk(), None, []
            for _ in range(80):
                name, other = luck.choice("abcd"), luck.choice("abcd")
                place, many, number = luck.randint(0, 3), luck.choice([0, 1, 1, 2, 5]), luck.choice(["longest", "gap", "deadline"])
                longest = luck.randint(1, 9)
                task = make_task(name, longest, luck.randint(20, 60), deadline=luck.randint(9, 60), room=luck.randint(0, 5))
                row = luck.choice([
                    (f"put {place} {format_task(task)}", lambda: desk.do(("put", task, place))), (f"put {place} {format_task(task)}", lambda: desk.do(("put", task, place))),
                    (f"set {format_task(task)}", lambda: desk.do(("set", task))), (f"drop {name}", lambda: desk.do(("drop", name))), (f"move {name} {place}", lambda: desk.do(("move", name, place))),
                    (f"undo {many}", lambda: desk.undo(many=many)), (f"redo {many}", lambda: desk.redo(many=many)), ("tasks", lambda: format_tasks(desk.tasks) or "none"),
                    ("levels", lambda: format_levels(desk.levels) or "none"), ("room", lambda: str(desk.room)), (f"worst {name}", lambda: str(worst_answer(desk.levels, name))),
                    (f"may {name} {other}", lambda: "yes" if desk.levels.may_interrupt(name, other) else "no"), (f"margin {name} {number}", lambda: str(margin(desk.tasks, name, number))),
                ] + [("start", None)] * 4 + [
                    (f"release {name}", lambda: (machine.release(name), "ok")[1]), (f"release {name} {many}", lambda: (machine.release(name, length=many), "ok")[1]),
                    (f"tick {many}", lambda: " ".join([entry or "-" for entry in machine.walk(many)]) or "none"), (f"back {many}", lambda: str(machine.back(many=many))),
                    ("stack", lambda: " ".join(machine.stack) or "none"), ("answers", lambda: " ".join([str(ticks) for ticks in Run(machine.levels, machine.plan).answers]) or "none"),
                ] * 2)
                line, call = row
                word = line.split(" ")[0]
                if word in ("release", "tick", "back", "stack", "answers") and machine is None:
                    fails(self, InvalidOperation, shell.run, line)
                    continue
                if call is None:
                    machine, right = Machine(desk.levels), "ok"
                else:
                    try:
                        right = call()
                    except Exception as error:
                        fails(self, error.__class__, shell.run, line)
                        done[word + " refused"] = True
                        continue
                if word in ("put", "set", "drop", "move", "undo", "redo"):
                    machine, right = None, ", ".join([" ".join(news) for news in desk.news()]) or "ok"
                    log.append(line)
                done[word] = True
                self.assertEqual(shell.run(line), right, line)
                told = "no machine" if machine is None else f"machine at tick {machine.now}"
                self.assertEqual([shell.log, str(shell), shell.levels], [tuple(log), f"shell of {len(desk)} tasks, {told}", desk.levels])
        self.assertEqual(len([word for word in done if "refused" not in word]), 18)
        self.assertIn("put refused", done)

    def test_threads_are_any_with_the_fewest_groups(self):
        shell = Shell()
        for place, name in enumerate("abcdefghij"):
            shell.run(f"put {place} {name} 2 100 {80 + place} 1")
        levels = shell.levels
        groups = [group.split(" ") for group in shell.run("threads").split(" / ")]
        self.assertEqual(sorted([name for group in groups for name in group]), list("abcdefghij"))
        self.assertTrue(all([may_share(levels, one, two) for group in groups for one in group for two in group]))

    def test_errors_are_of_just_these_classes(self):
        # A task that is none is an error of the text, not of the task.
        self.assertFalse(issubclass(ParseError, InvalidTask))


if __name__ == "__main__":
    unittest.main()
