"""0.2, 0.3, 0.6, 0.7 and 0.18 over the whole program: what its parts say about one another."""

import random
import unittest

from holdlevels.answers.reached import is_worst_plan, worst_plan
from holdlevels.answers.worst import delay, worst_answer, worst_answers
from holdlevels.errors import InvalidEdit, NoLevels, Overload
from holdlevels.good.greatest import good_path, greatest_levels, is_levels_paper, least_levels, levels_paper, must_interrupt
from holdlevels.good.judged import faults, is_good, is_state_paper, state_paper
from holdlevels.good.tolerances import tolerance
from holdlevels.live.desk import Desk
from holdlevels.margins.growth import cut, interruptions, is_harder, new_interruptions
from holdlevels.margins.margins import at_margin, is_margin_paper, margin, margin_paper, margins
from holdlevels.room.chains import chain_plan, chains, heaviest_chain, is_chain, is_room_paper, most_room, room_paper
from holdlevels.room.threads import is_thread_paper, is_threads, thread_paper, threads
from holdlevels.runs.machine import Machine
from holdlevels.runs.runs import Run
from holdlevels.tasks.levels import Levels
from holdlevels.tasks.tasks import make_task
from holdlevels.tasks.tasksets import Tasks
from holdlevels.text.formats import chart, format_levels, format_paper, format_plan, format_task, format_tasks
from holdlevels.text.formats import parse_levels, parse_paper, parse_plan, parse_tasks
from holdlevels.text.shell import Shell
from tests.papers import tight_tasks
from tests.reference import busy_tasks, full_plan, locked_tasks, some_tasks
from tests.samples import BEST, CAR, NONE

WORDS = ("longest", "gap", "deadline")


def samples(seed, many):
    luck = random.Random(seed)
    for at in range(many):
        tasks = locked_tasks(luck) if at % 4 == 0 else luck.choice([some_tasks, busy_tasks])(luck)
        yield luck, tight_tasks(luck, tasks) if at % 2 else tasks


def played(levels, plan):
    """Return the log of a machine to which the jobs of a plan are released."""
    machine = Machine(levels)
    for tick, name, length in plan:
        list(machine.walk(tick - machine.now))
        machine.release(name, length=length)
    while machine.stack or machine.waiting:
        machine.tick()
    return machine.log


class GuaranteeTest(unittest.TestCase):
    def test_greatest_levels_meet_all_deadlines_with_least_room_and_fewest_threads(self):
        good = 0
        for luck, tasks in samples(1, 120):
            levels = greatest_levels(tasks)
            self.assertEqual([levels is None, least_levels(tasks) is None], [levels_paper(tasks)[0] == "none"] * 2)
            if levels is None:
                self.assertNotEqual(list(faults(Levels.least(tasks))), [])
                continue
            good += 1
            for _ in range(3):
                run = Run(levels, full_plan(luck, tasks, 120))
                self.assertEqual(run.late, ())
                self.assertEqual(played(levels, run.plan), run.log)
                self.assertLessEqual(run.peak[0], most_room(levels))
            path = list(good_path(tasks))
            for low, high in zip(path, path[1:]):
                self.assertTrue(is_good(low) and low.is_within(high))
                self.assertGreaterEqual(most_room(low), most_room(high))
                self.assertGreaterEqual(len(threads(low)), len(threads(high)))
                self.assertIs(is_threads(high, threads(low)), True)
                self.assertTrue(all([is_chain(low, names) for names in chains(high)]))
            for name in tasks.names:
                self.assertLessEqual(delay(levels, name), tolerance(tasks, name, levels[name]))
                self.assertLessEqual(worst_answer(levels, name), tasks[name][3])
                self.assertIs(is_worst_plan(levels, name, worst_plan(levels, name)), True)
        self.assertGreater(good, 60)

    def test_interruptions_are_what_runs_show(self):
        for luck, tasks in samples(2, 60):
            levels = greatest_levels(tasks)
            if levels is None:
                continue
            pairs = interruptions(tasks)
            for name in tasks.names:
                for other in tasks.names:
                    self.assertIs(must_interrupt(tasks, name, other), (name, other) in pairs)
                    self.assertIs(is_chain(levels, (other, name)), (name, other) in pairs)
                    if (name, other) in pairs:
                        run = Run(levels, chain_plan(levels, other, name))
                        self.assertEqual(len(list(run.interruptions())), 1)
            run = Run(levels, full_plan(luck, tasks, 100))
            for _, index, other in run.interruptions():
                self.assertIn((run.plan[index][1], run.plan[other][1]), pairs)

    def test_harder_and_easier_tasks(self):
        margins_seen = 0
        for luck, tasks in samples(3, 60):
            levels = greatest_levels(tasks)
            for name in tasks.names:
                number = luck.choice(WORDS)
                hardest = margin(tasks, name, number)
                if hardest is None:
                    self.assertIs(levels, None)
                    continue
                harder = at_margin(tasks, name, number)
                if levels is None:
                    self.assertIs(is_harder(tasks, harder), True)
                    continue
                margins_seen += 1
                self.assertIs(is_harder(harder, tasks), True)
                high = greatest_levels(harder)
                self.assertTrue(least_levels(tasks).is_within(cut(high, tasks)) and cut(high, tasks).is_within(levels))
                self.assertTrue(set(interruptions(tasks)) <= set(interruptions(harder)))
                self.assertEqual(new_interruptions(tasks, harder), ())
                self.assertGreaterEqual(most_room(high), most_room(levels))
                self.assertGreaterEqual(len(threads(high)), len(threads(levels)))
                # At the margin the margin of this number is the same.
                self.assertEqual(margin(harder, name, number), hardest)
                fewer = tasks.only(*luck.sample(tasks.names, luck.randint(0, len(tasks))))
                self.assertIs(is_harder(tasks, fewer), True)
                self.assertTrue(cut(levels, fewer).is_within(greatest_levels(fewer)))
                for other in fewer.names:
                    easier = margin(fewer, other, number)
                    if number == "longest":
                        self.assertGreaterEqual(easier, margin(tasks, other, number))
                    else:
                        self.assertLessEqual(easier, margin(tasks, other, number))
        self.assertGreater(margins_seen, 60)

    def test_none_of_it_is_true(self):
        # The chain with the most tasks needs the most room.
        levels = Levels.least(Tasks(make_task("a", 2, 90, room=9), make_task("b", 2, 90, room=1), make_task("c", 2, 90, room=1))).with_level("a", 2)
        self.assertEqual([max([len(names) for names in chains(levels)]), heaviest_chain(levels)], [2, ("a",)])
        # A new most urgent task changes nothing among the others.
        tasks = Tasks(make_task("low", 6, 100), make_task("mid", 2, 100, deadline=8))
        more = tasks.with_task(make_task("top", 2, 100))
        self.assertEqual([interruptions(tasks), new_interruptions(more, tasks)], [(), (("mid", "low"),)])
        # The greatest levels of the less urgent tasks alone are those of all, cut to them; of the more urgent ones they are.
        self.assertNotEqual(greatest_levels(more).cut_to("low", "mid"), greatest_levels(tasks))
        self.assertEqual(greatest_levels(more).cut_to("mid", "top"), greatest_levels(more.only("mid", "top")))
        # Two tasks that never interrupt one another have equal levels.
        tasks = Tasks(make_task("a", 9, 100), make_task("b", 2, 100), make_task("c", 1, 100, deadline=2))
        best = greatest_levels(tasks)
        self.assertEqual([best.numbers, interruptions(tasks)], [(1, 2, 2), (("c", "a"),)])


class TextTest(unittest.TestCase):
    def test_all_is_read_back(self):
        for luck, tasks in samples(4, 50):
            self.assertEqual(parse_tasks(format_tasks(tasks)), tasks)
            papers = [levels_paper(tasks), levels_paper(tasks, least=True)]
            for paper in papers:
                self.assertIs(is_levels_paper(tasks, parse_paper(format_paper(paper))), True)
            for levels in (Levels.least(tasks), Levels.greatest(tasks)):
                self.assertEqual(parse_levels(tasks, format_levels(levels)), levels)
                self.assertIs(is_state_paper(levels, parse_paper(format_paper(state_paper(levels)))), True)
                plan = full_plan(luck, tasks, 60)
                again = parse_plan(tasks, format_plan(tasks, plan))
                self.assertEqual([Run(levels, again), chart(levels, again)], [Run(levels, plan), chart(levels, plan)])
                lines = dict([(line.split(" ")[0], line[9:]) for line in chart(levels, plan).split("\n")])
                for name in tasks.names:
                    self.assertEqual(lines[name].count("#"), Run(levels, plan).log.count(name))
            name = luck.choice(tasks.names)
            paper = margin_paper(tasks, name, "deadline")
            inside = None if paper[1] is None else parse_paper(format_paper(paper[1]))
            outside = paper[2] if isinstance(paper[2], str) else parse_paper(format_paper(paper[2]))
            self.assertIs(is_margin_paper(tasks, name, "deadline", (paper[0], inside, outside)), True)


class HistoryTest(unittest.TestCase):
    def test_a_desk_and_a_shell_beside_the_functions(self):
        luck = random.Random(5)
        made = refused = 0
        for _ in range(20):
            desk, shell = Desk(kept=9), Shell(Desk(kept=9))
            for _ in range(25):
                name, longest = luck.choice("abcd"), luck.randint(1, 9)
                task = make_task(name, longest, luck.randint(20, 60), deadline=luck.randint(9, 60), room=luck.randint(0, 5))
                place = luck.randint(0, len(desk))
                before = desk.tasks
                way = luck.random()
                try:
                    if name not in desk:
                        desk.do(("put", task, place))
                        line = f"put {place} {format_task(task)}"
                        self.assertEqual(desk.tasks, before.with_task(task, urgency=place))
                    elif way < 0.6:
                        desk.do(("set", task))
                        line = f"set {format_task(task)}"
                        self.assertEqual(desk.tasks, before.replaced(task))
                    elif way < 0.8:
                        desk.do(("drop", name))
                        line = f"drop {name}"
                        self.assertEqual(desk.tasks, before.without(name))
                    else:
                        desk.do(("move", name, 0))
                        line = f"move {name} 0"
                        self.assertEqual(desk.tasks, before.moved(name, 0))
                except NoLevels as error:
                    refused += 1
                    self.assertEqual(error.paper[0], "none")
                    continue
                except Overload:
                    continue
                made += 1
                self.assertEqual(shell.run(line), ", ".join([" ".join(row) for row in desk.news()]) or "ok")
                self.assertEqual([shell.desk() == desk, shell.levels], [True, greatest_levels(desk.tasks)])
                news = sorted([("gone", *pair) for pair in new_interruptions(before, desk.tasks)] + [("new", *pair) for pair in new_interruptions(desk.tasks, before)])
                self.assertEqual(list(desk.news()), news)
                self.assertEqual([desk.room, shell.run("room")], [most_room(desk.levels), str(most_room(desk.levels))])
                self.assertEqual(worst_answers(desk.levels), {one: int(shell.run(f"worst {one}")) for one in desk.tasks.names})
                self.assertEqual(shell.run("levels"), format_levels(desk.levels) or "none")
                self.assertEqual(parse_tasks(format_tasks(desk.tasks)), desk.tasks)
            # The lines of the log make an equal desk.
            again = Shell(Desk(kept=9))
            self.assertEqual(len(list(again.run_all(shell.log))), len(shell))
            self.assertEqual([again.desk(), again.log, again.levels], [shell.desk(), shell.log, shell.levels])
        self.assertGreater(min(made, refused), 40)

    def test_an_edit_that_is_refused_fits_behind_the_margin(self):
        desk = Desk()
        desk.do(*[("put", task, place) for place, task in enumerate(CAR.tasks)])
        for name, numbers in margins(CAR).items():
            for number, value in zip(WORDS, numbers):
                changed = CAR.changed(name, **{number: value})
                self.assertEqual(desk.attempt(lambda same: (same.do(("set", changed[name])), same.tasks == changed)), (2, True))
                beyond = value + 1 if number == "longest" else value - 1
                row = list(changed[name])
                row[1 + WORDS.index(number)] = beyond
                with self.assertRaises((NoLevels, Overload, InvalidEdit)):
                    desk.do(("set", tuple(row)))
        self.assertEqual([desk.tasks, desk.levels, desk.steps], [CAR, BEST, 1])


class ArgumentTest(unittest.TestCase):
    def test_equal_calls_return_equal_results_and_change_nothing(self):
        for _, tasks in samples(6, 20):
            rows = tasks.tasks
            levels = Levels.least(tasks)
            name = tasks.names[0]
            calls = [
                lambda: margins(tasks), lambda: levels_paper(tasks), lambda: levels_paper(tasks, least=True), lambda: state_paper(levels), lambda: list(faults(levels)),
                lambda: list(chains(levels)), lambda: room_paper(levels), lambda: thread_paper(levels), lambda: margin_paper(tasks, name, "gap"), lambda: format_tasks(tasks),
                lambda: greatest_levels(tasks), lambda: worst_answers(levels),
            ]
            first = [call() for call in calls]
            self.assertEqual([call() for call in calls[::-1]], first[::-1])
            self.assertEqual([tasks.tasks, levels.numbers], [rows, tuple(range(len(tasks)))])
            papers = (first[1], first[3], first[6], first[7], first[8])
            shown = repr(papers)
            found = [
                is_levels_paper(tasks, papers[0]), is_state_paper(levels, papers[1]), is_room_paper(levels, papers[2]), is_thread_paper(levels, papers[3]),
                is_margin_paper(tasks, name, "gap", papers[4]),
            ]
            self.assertEqual([found, repr(papers)], [[True] * 5, shown])

    def test_keywords_in_any_order_and_positions(self):
        shell = Shell(desk=Desk(kept=5))
        self.assertEqual([shell.run("put 0 a 1 100 100 1"), len(Desk(kept=0)), Desk().undo(many=0)], ["ok", 0, 0])
        for call in (lambda: Desk(5), lambda: Desk().undo(1), lambda: Desk().redo(1), lambda: levels_paper(CAR, True)):
            with self.assertRaises(TypeError):
                call()

    def test_no_tasks(self):
        levels = greatest_levels(NONE)
        self.assertEqual([margins(NONE), interruptions(NONE), room_paper(levels), thread_paper(levels), format_tasks(NONE)], [{}, (), ("room", (), ()), ("threads", (), ()), ""])


if __name__ == "__main__":
    unittest.main()
