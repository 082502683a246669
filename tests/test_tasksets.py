"""0.10, 2.1 and stage 2: tasks."""

import unittest

from holdlevels.errors import InvalidNumber, InvalidOperation, InvalidTask, InvalidTasks, Overload, TooMany, UnknownName
from holdlevels.tasks.tasks import make_task
from holdlevels.tasks.tasksets import Tasks
from tests.samples import CAR, NONE, OWN, PLAIN, TEN, cannot_be_iterated, fails, others

LOG, PLAN, STEER, BRAKE = CAR.tasks
UNKNOWN = [value for value in PLAIN + OWN] + ["map", "LOG", LOG]
FULL = Tasks(make_task("a", 9, 10))
ELEVEN = TEN.tasks + (make_task("k", 1, 20),)


class MakingTest(unittest.TestCase):
    def test_examples(self):
        found = [CAR.load, CAR.locks, CAR.above("plan"), CAR["brake"], str(CAR.without("log"))]
        right = [(4, 5), {"map": 2}, ("steer", "brake"), ("brake", 2, 10, 5, 1, ()), "3 tasks, load 13/20"]
        self.assertEqual(found, right)
        found = [CAR.moved("log", 3).names, CAR.changed("log", gap=30).load, (CAR.only("brake") + CAR.only("log")).names]
        self.assertEqual(found, [("plan", "steer", "brake", "log"), (17, 20), ("brake", "log")])

    def test_no_tasks(self):
        self.assertEqual((NONE.tasks, NONE.names, NONE.load, NONE.locks, len(NONE)), ((), (), (0, 1), {}, 0))
        self.assertFalse(NONE)
        self.assertEqual(str(NONE), "0 tasks, load 0/1")
        self.assertEqual(Tasks.of(()), NONE)
        self.assertNotIn("a", NONE)

    def test_ten_and_eleven_tasks(self):
        self.assertEqual(len(TEN), 10)
        self.assertEqual(TEN.load, (1, 2))
        self.assertEqual(Tasks.MAX_TASKS, 10)
        self.assertEqual(TEN.MAX_TASKS, 10)
        fails(self, TooMany, Tasks, *ELEVEN, keeps=("limit", 10))
        fails(self, TooMany, Tasks.of, ELEVEN, keeps=("limit", 10))

    def test_tasks_are_looked_at_first_then_their_number_then_the_load(self):
        fails(self, InvalidTasks, Tasks, *ELEVEN, LOG[:5])
        fails(self, InvalidTasks, Tasks, *ELEVEN, ELEVEN[0])
        heavy = [make_task(letter, 9, 10) for letter in "abcdefghijk"]
        fails(self, TooMany, Tasks, *heavy, keeps=("limit", 10))
        fails(self, Overload, Tasks, *heavy[:10], keeps=("share", (9, 1)))
        fails(self, InvalidTasks, Tasks, heavy[0], heavy[0])

    def test_loads(self):
        self.assertEqual(FULL.load, (9, 10))
        self.assertEqual(Tasks(make_task("a", 90, 100)).load, (9, 10))
        self.assertEqual(Tasks(make_task("a", 1, 2), make_task("b", 2, 5)).load, (9, 10))
        fails(self, Overload, Tasks, make_task("a", 10, 11), keeps=("share", (10, 11)))
        self.assertEqual(Tasks(make_task("a", 89, 99), make_task("b", 1, 999)).load, (9890, 10989))
        fails(self, Overload, Tasks, make_task("a", 1, 2), make_task("b", 81, 202), keeps=("share", (91, 101)))
        fails(self, Overload, Tasks.of, (FULL["a"], make_task("b", 1, 1000)), keeps=("share", (901, 1000)))
        fails(self, Overload, Tasks, make_task("a", 100, 1), keeps=("share", (100, 1)))

    def test_different_names(self):
        fails(self, InvalidTasks, Tasks, LOG, make_task("log", 1, 100))
        fails(self, InvalidTasks, Tasks.of, (LOG, BRAKE, LOG))

    def test_other_values(self):
        for value in PLAIN + OWN:
            fails(self, InvalidTasks, Tasks, value)
            fails(self, InvalidTasks, Tasks, LOG, value, BRAKE)
            fails(self, InvalidTasks, Tasks.of, (LOG, value))
            fails(self, InvalidTasks, Tasks.of, value)
        fails(self, InvalidTasks, Tasks.of, [LOG])
        fails(self, InvalidTasks, Tasks.of, LOG)


class ReadingTest(unittest.TestCase):
    def test_properties(self):
        self.assertEqual(CAR.tasks, (LOG, PLAN, STEER, BRAKE))
        self.assertEqual(CAR.names, ("log", "plan", "steer", "brake"))
        self.assertEqual(Tasks.of(CAR.tasks), CAR)

    def test_locks_are_ascending_with_the_greatest_urgency(self):
        tasks = Tasks(
            make_task("a", 9, 90, (1, 2, "z"), (3, 4, "m")), make_task("b", 9, 90, (1, 5, "b")),
            make_task("c", 9, 90, (1, 2, "m"), (2, 3, "a"), (4, 6, "m")), make_task("d", 9, 90),
        )
        self.assertEqual(list(tasks.locks.items()), [("a", 2), ("b", 1), ("m", 2), ("z", 0)])

    def test_a_returned_dict_gives_no_access(self):
        locks = CAR.locks
        locks["map"] = 7
        locks["other"] = 1
        self.assertEqual(CAR.locks, {"map": 2})

    def test_properties_cannot_be_assigned(self):
        for name in ("tasks", "names", "load", "locks"):
            with self.assertRaises(AttributeError):
                setattr(CAR, name, ())

    def test_urgency_above_and_items(self):
        self.assertEqual([CAR.urgency(name) for name in CAR.names], [0, 1, 2, 3])
        self.assertEqual(CAR.above("brake"), ())
        self.assertEqual(CAR.above("log"), ("plan", "steer", "brake"))
        self.assertEqual(tuple([CAR[name] for name in CAR.names]), CAR.tasks)

    def test_unknown_names(self):
        for value in UNKNOWN:
            if not (isinstance(value, str) and value in ("log", "plan", "steer", "brake")):
                for call in (CAR.urgency, CAR.above, lambda name: CAR[name], lambda name: NONE[name]):
                    fails(self, UnknownName, call, value, keeps=("name", value))

    def test_in(self):
        for name in CAR.names:
            self.assertIs(name in CAR, True)
        for value in UNKNOWN:
            self.assertIs(value in CAR, False, value)

    def test_signs(self):
        self.assertEqual(len(CAR), 4)
        self.assertTrue(CAR)
        self.assertEqual(str(CAR), "4 tasks, load 4/5")
        self.assertEqual(str(FULL), "1 tasks, load 9/10")

    def test_equal(self):
        self.assertTrue(CAR == Tasks(LOG, PLAN, STEER, BRAKE))
        self.assertFalse(CAR != Tasks(LOG, PLAN, STEER, BRAKE))
        self.assertFalse(CAR == Tasks(PLAN, LOG, STEER, BRAKE))
        self.assertTrue(CAR != CAR.without("log"))
        self.assertTrue(CAR != CAR.changed("log", room=6))
        for value in others(Tasks) + [CAR.tasks, CAR.names, list(CAR.tasks)]:
            self.assertIs(CAR == value, False, value)
            self.assertIs(CAR != value, True, value)
            self.assertIs(value == CAR, False, value)

    def test_not_iterated(self):
        cannot_be_iterated(self, CAR)
        cannot_be_iterated(self, NONE)


class PuttingInTest(unittest.TestCase):
    def test_with_task(self):
        wash = make_task("wash", 1, 100)
        self.assertEqual(CAR.with_task(wash).tasks, CAR.tasks + (wash,))
        self.assertEqual(CAR.with_task(wash, urgency=None).names[4], "wash")
        for urgency in range(5):
            found = CAR.with_task(wash, urgency=urgency)
            self.assertEqual(found.urgency("wash"), urgency)
            self.assertEqual(found.without("wash"), CAR)
        self.assertEqual(NONE.with_task(wash, urgency=0), Tasks(wash))
        self.assertEqual(CAR.names, ("log", "plan", "steer", "brake"))

    def test_with_task_errors_in_order(self):
        wash = make_task("wash", 1, 100)
        for value in PLAIN + OWN:
            fails(self, InvalidTask, CAR.with_task, value)
            fails(self, InvalidTask, CAR.with_task, value, urgency="x")
        for value in (True, False, -1, 5, 10 ** 39, "0", (), [1], {}, CAR):
            fails(self, InvalidNumber, CAR.with_task, wash, urgency=value, keeps=("value", value))
            fails(self, InvalidNumber, CAR.with_task, LOG, urgency=value, keeps=("value", value))
        fails(self, InvalidTasks, CAR.with_task, LOG)
        fails(self, InvalidTasks, CAR.with_task, make_task("log", 90, 100), urgency=0)
        fails(self, InvalidTasks, TEN.with_task, make_task("a", 90, 100))
        fails(self, TooMany, TEN.with_task, make_task("k", 90, 100), keeps=("limit", 10))
        fails(self, Overload, CAR.with_task, make_task("wash", 11, 100), keeps=("share", (91, 100)))
        fails(self, Overload, FULL.with_task, make_task("b", 1, 1000), keeps=("share", (901, 1000)))

    def test_replaced(self):
        short = make_task("plan", 1, 100)
        self.assertEqual(CAR.replaced(short).tasks, (LOG, short, STEER, BRAKE))
        self.assertEqual(TEN.replaced(make_task("j", 2, 20)).load, (11, 20))

    def test_replaced_errors_in_order(self):
        for value in PLAIN + OWN:
            fails(self, InvalidTask, CAR.replaced, value)
        fails(self, UnknownName, CAR.replaced, make_task("wash", 100, 100), keeps=("name", "wash"))
        fails(self, Overload, CAR.replaced, make_task("plan", 31, 100), keeps=("share", (91, 100)))

    def test_add(self):
        self.assertEqual(CAR.only("log", "plan") + CAR.only("steer", "brake"), CAR)
        self.assertEqual((CAR.only("steer") + CAR.only("log", "plan")).names, ("steer", "log", "plan"))
        self.assertEqual(NONE + CAR, CAR)
        self.assertEqual(CAR + NONE, CAR)
        self.assertEqual(NONE + NONE, NONE)

    def test_add_errors_in_order(self):
        for value in others(Tasks) + [LOG, (LOG,)]:
            fails(self, InvalidOperation, lambda other: CAR + other, value)
        fails(self, InvalidOperation, lambda other: CAR + other, CAR)
        fails(self, InvalidOperation, lambda other: TEN + other, Tasks(make_task("j", 9, 10)))
        fails(self, TooMany, lambda other: TEN + other, Tasks(make_task("k", 9, 10)), keeps=("limit", 10))
        fails(self, Overload, lambda other: CAR + other, FULL, keeps=("share", (17, 10)))


class TakingOutTest(unittest.TestCase):
    def test_without_and_only(self):
        self.assertEqual(CAR.without(), CAR)
        self.assertEqual(CAR.only(), NONE)
        self.assertEqual(CAR.without("steer", "log", "steer").names, ("plan", "brake"))
        self.assertEqual(CAR.only("steer", "log", "steer").names, ("log", "steer"))
        self.assertEqual(CAR.without("brake", "steer", "plan", "log"), NONE)
        self.assertEqual(CAR.only("brake", "steer", "plan", "log"), CAR)

    def test_unknown_names(self):
        for value in PLAIN + OWN:
            fails(self, UnknownName, CAR.without, "log", value, "wash", keeps=("name", value))
            fails(self, UnknownName, CAR.only, "log", value, "wash", keeps=("name", value))

    def test_moved(self):
        names = [CAR.moved("plan", urgency).names for urgency in range(4)]
        self.assertEqual(names[0], ("plan", "log", "steer", "brake"))
        self.assertEqual(names[1], CAR.names)
        self.assertEqual(names[2], ("log", "steer", "plan", "brake"))
        self.assertEqual(names[3], ("log", "steer", "brake", "plan"))
        self.assertEqual(CAR.moved("brake", 0).tasks, (BRAKE, LOG, PLAN, STEER))

    def test_moved_errors_in_order(self):
        for value in PLAIN + OWN:
            fails(self, UnknownName, CAR.moved, value, None, keeps=("name", value))
        for value in (None, True, False, -1, 4, 10 ** 39, "0", (), [1], {}, CAR):
            fails(self, InvalidNumber, CAR.moved, "log", value, keeps=("value", value))


class ChangingTest(unittest.TestCase):
    def test_changed(self):
        found = CAR.changed("plan", room=9, deadline=8)
        self.assertEqual(found.tasks, (LOG, ("plan", 4, 20, 8, 9, PLAN[5]), STEER, BRAKE))
        self.assertEqual(CAR.changed_by("plan", {"deadline": 8, "room": 9}), found)
        self.assertEqual(CAR.changed("plan"), CAR)
        self.assertEqual(CAR.changed_by("plan", {}), CAR)
        self.assertEqual(CAR.changed("brake", longest=3).load, (9, 10))

    def test_changed_errors_in_order(self):
        for value in PLAIN + OWN:
            fails(self, UnknownName, CAR.changed_by, value, None, keeps=("name", value))
            fails(self, UnknownName, CAR.changed, value, level=1, keeps=("name", value))
            if value != {}:
                fails(self, InvalidOperation, CAR.changed_by, "log", value)
        fails(self, InvalidOperation, CAR.changed, "log", gap=None, level=1)
        fails(self, InvalidOperation, CAR.changed_by, "log", {"name": "wash"})
        fails(self, InvalidOperation, CAR.changed_by, "log", {"gap": 40, 1: 2})
        for value in (None, True, False, 0, 101, "6", (), [], {}):
            fails(self, InvalidTask, CAR.changed, "log", longest=value)
        fails(self, InvalidTask, CAR.changed, "plan", longest=3)
        fails(self, InvalidTask, CAR.changed, "log", longest=100, room=None)
        fails(self, Overload, CAR.changed, "brake", longest=4, keeps=("share", (1, 1)))
        fails(self, Overload, CAR.changed_by, "log", {"gap": 1}, keeps=("share", (133, 20)))

    def test_renamed(self):
        found = CAR.renamed(log="map", brake="log")
        self.assertEqual(found.names, ("map", "plan", "steer", "log"))
        self.assertEqual(found.locks, {"map": 2})
        self.assertEqual(found["map"], ("map",) + LOG[1:])
        self.assertEqual(CAR.renamed(log="plan", plan="log").names, ("plan", "log", "steer", "brake"))
        self.assertEqual(CAR.renamed(log="log"), CAR)
        self.assertEqual(CAR.renamed(), CAR)
        self.assertEqual(CAR.renamed_by({"steer": "abcdefgh"}).names[2], "abcdefgh")

    def test_renamed_errors_in_order(self):
        for value in PLAIN + OWN:
            if not (isinstance(value, dict) and all([isinstance(key, str) for key in value])):
                fails(self, InvalidOperation, CAR.renamed_by, value)
        fails(self, InvalidOperation, CAR.renamed_by, {"wash": None, 1: "a"})
        fails(self, UnknownName, CAR.renamed_by, {"wash": None, "log": 1, "cook": "log"}, keeps=("name", "cook"))
        fails(self, UnknownName, CAR.renamed, zz="plan", Z="plan", keeps=("name", "Z"))
        for value in PLAIN + OWN:
            if value != "a":
                fails(self, InvalidTasks, CAR.renamed, log=value)
        fails(self, InvalidTasks, CAR.renamed, log="plan")
        fails(self, InvalidTasks, CAR.renamed, log="a", plan="a")

    def test_nothing_changes(self):
        before = (CAR.tasks, CAR.names, CAR.load, CAR.locks)
        CAR.with_task(make_task("wash", 1, 100))
        CAR.moved("log", 3)
        CAR.changed("log", gap=50)
        CAR.renamed(log="wash")
        fails(self, Overload, CAR.with_task, make_task("wash", 11, 100))
        self.assertEqual((CAR.tasks, CAR.names, CAR.load, CAR.locks), before)


if __name__ == "__main__":
    unittest.main()
