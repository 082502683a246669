"""0.8, 0.9 and stage 1: a task."""

import unittest

from holdlevels.errors import InvalidNumber, InvalidOperation, InvalidTask
from holdlevels.tasks.tasks import changed_task, changed_task_by, is_name, is_task, lock_inside, make_task
from holdlevels.tasks.tasks import section_lengths, task_by
from tests.samples import OWN, PLAIN, fails

COOK = ("cook", 6, 30, 30, 2, ((0, 3, "sink"), (3, 5, "stove")))
EIGHT = tuple([(begin, begin + 1, "lock") for begin in range(8)])
NINE = tuple([(begin, begin + 1, "lock") for begin in range(9)])

WRONG_PARTS = {
    "name": [None, True, 0, "", "a" * 9, "Cook", "co ok", "cook1", "cook\n", "a_b", b"cook".hex(), (), ["cook"], {}],
    "longest": [None, True, False, 0, -1, 101, 10 ** 39, "6", (), [6], {}, 5],
    "gap": [None, True, False, 0, -1, 1001, 10 ** 39, "30", (30,), [], {}],
    "deadline": [None, True, False, 0, -1, 20001, 10 ** 39, "30", (30,), [], {}],
    "room": [None, True, False, -1, 10 ** 6 + 1, 10 ** 39, "2", (2,), [], {}],
    "sections": [
        None, True, 0, "", "ab", [], {}, [(0, 3, "sink")], ((0, 3),), ((0, 3, "sink", 1),), ([0, 3, "sink"],), (0, 3, "sink"),
        ((3, 5, "stove"), (0, 3, "sink")), ((0, 3, "sink"), (0, 3, "sink")), ((0, 3, "sink"), (2, 5, "stove")),
        ((-1, 3, "sink"),), ((3, 3, "sink"),), ((3, 2, "sink"),), ((0, 6, "sink"),), ((False, 3, "sink"),),
        ((0, True, "sink"),), ((0, 3, "Sink"),), ((0, 3, ""),), ((0, 3, None),), (("0", 3, "sink"),), ((None, 3, "sink"),),
        ((0, 3, "sink"), None), ((0, 3, 7),),
    ],
}
PARTS = ("name", "longest", "gap", "deadline", "room", "sections")


def with_part(task, part, value):
    place = PARTS.index(part)
    return task[:place] + (value,) + task[place + 1:]


class NameTest(unittest.TestCase):
    def test_names(self):
        for value in ("a", "z", "log", "abcdefgh", "zzzzzzzz"):
            self.assertIs(is_name(value), True, value)

    def test_other_values(self):
        for value in ("", "abcdefghi", "A", "aB", "a1", "1", "a b", " a", "a ", "a\n", "\n", "a-b", "a_b", "`", "{", "a{"):
            self.assertIs(is_name(value), False, value)
        for value in OWN + [None, True, 0, 10 ** 39, (), ("a",), ["a"], {"a": 1}, [["a"]]]:
            self.assertIs(is_name(value), False, value)


class TaskTest(unittest.TestCase):
    def test_tasks(self):
        for value in (
            COOK, ("a", 1, 1, 1, 0, ()), ("abcdefgh", 100, 1000, 20000, 10 ** 6, ()), ("a", 9, 5, 500, 1, EIGHT),
            ("a", 2, 5, 1, 1, ((0, 1, "a"),)), ("a", 100, 1, 1, 1, ((0, 99, "abcdefgh"),)),
            ("a", 9, 9, 9, 9, ((1, 2, "x"), (4, 8, "x"))),
        ):
            self.assertIs(is_task(value), True, value)

    def test_each_wrong_part(self):
        for part in PARTS:
            for value in WRONG_PARTS[part]:
                if part != "longest" or value != 5:
                    self.assertIs(is_task(with_part(COOK, part, value)), False, (part, value))
        self.assertIs(is_task(with_part(COOK, "longest", 5)), False)
        self.assertIs(is_task(("a", 10, 50, 500, 1, NINE)), False)
        self.assertIs(is_task(("a", 1, 50, 500, 1, ((0, 1, "a"),))), False)

    def test_other_values(self):
        for value in PLAIN + OWN + [COOK[:5], COOK + (1,), list(COOK), (COOK,), [COOK]]:
            self.assertIs(is_task(value), False, value)


class MakeTaskTest(unittest.TestCase):
    def test_examples(self):
        cook = make_task("cook", 6, 30, (3, 5, "stove"), (0, 3, "sink"), room=2)
        self.assertEqual(cook, COOK)
        self.assertEqual(changed_task(cook, longest=9, deadline=20)[:4], ("cook", 9, 30, 20))
        self.assertEqual(task_by({"name": "a", "longest": 1, "gap": 2}), ("a", 1, 2, 2, 1, ()))

    def test_ordinary_tasks(self):
        self.assertEqual(make_task("a", 5, 50), ("a", 5, 50, 50, 1, ()))
        self.assertEqual(make_task("a", 5, 50, room=0, deadline=20000), ("a", 5, 50, 20000, 0, ()))
        self.assertEqual(make_task("a", 5, 50, deadline=None), ("a", 5, 50, 50, 1, ()))
        self.assertEqual(make_task("a", 9, 50, *reversed(EIGHT)), ("a", 9, 50, 50, 1, EIGHT))
        self.assertEqual(make_task("a", 100, 1000, deadline=1, room=10 ** 6), ("a", 100, 1000, 1, 10 ** 6, ()))

    def test_task_by_takes_what_make_task_takes(self):
        values = {"sections": ((3, 5, "stove"), (0, 3, "sink")), "room": 2, "gap": 30, "name": "cook", "longest": 6}
        self.assertEqual(task_by(values), COOK)
        self.assertEqual(task_by({**values, "deadline": 7})[3], 7)
        self.assertEqual(task_by({**values, "deadline": None})[3], 30)
        self.assertEqual(values["sections"], ((3, 5, "stove"), (0, 3, "sink")))

    def test_each_wrong_part(self):
        for part in PARTS:
            for value in WRONG_PARTS[part]:
                if part == "deadline" and value is None:
                    continue
                if part == "sections" and value == ((3, 5, "stove"), (0, 3, "sink")):
                    continue
                wrong = dict(zip(PARTS, with_part(COOK, part, value)))
                fails(self, InvalidTask, task_by, wrong)
                if part != "sections":
                    fails(
                        self, InvalidTask, make_task, wrong["name"], wrong["longest"], wrong["gap"], *wrong["sections"],
                        deadline=wrong["deadline"], room=wrong["room"],
                    )
                elif isinstance(value, tuple):
                    fails(self, InvalidTask, make_task, "cook", 6, 30, *value, room=2)

    def test_wrong_sections(self):
        for value in PLAIN + OWN:
            fails(self, InvalidTask, make_task, "cook", 6, 30, (0, 3, "sink"), value)
        fails(self, InvalidTask, make_task, "a", 10, 50, *NINE)
        fails(self, InvalidTask, make_task, "a", 1, 50, (0, 1, "a"))

    def test_task_by_wants_just_these_keys(self):
        right = dict(zip(PARTS, COOK))
        for key in ("name", "longest", "gap"):
            fails(self, InvalidTask, task_by, {word: right[word] for word in right if word != key})
        for key in ("", "level", "Name", None, 1, ("name",), True):
            fails(self, InvalidTask, task_by, {**right, key: 1})
        for value in PLAIN + OWN + [COOK, list(right), tuple(right.items())]:
            fails(self, InvalidTask, task_by, value)


class ChangedTaskTest(unittest.TestCase):
    def test_ordinary_changes(self):
        self.assertEqual(changed_task(COOK), COOK)
        self.assertEqual(changed_task_by(COOK, {}), COOK)
        self.assertEqual(changed_task(COOK, room=0, gap=1000), ("cook", 6, 1000, 30, 0, COOK[5]))
        self.assertEqual(changed_task(COOK, gap=1000, room=0), changed_task_by(COOK, {"room": 0, "gap": 1000}))
        numbers = {"deadline": 20000, "longest": 100, "gap": 1, "room": 10 ** 6}
        self.assertEqual(changed_task_by(COOK, numbers), ("cook", 100, 1, 20000, 10 ** 6, COOK[5]))
        self.assertEqual(list(numbers), ["deadline", "longest", "gap", "room"])

    def test_first_the_task_is_looked_at(self):
        for value in PLAIN + OWN:
            fails(self, InvalidTask, changed_task, value)
            fails(self, InvalidTask, changed_task, value, name=1)
            fails(self, InvalidTask, changed_task_by, value, None)

    def test_then_the_keys(self):
        for value in PLAIN + OWN:
            if value != {}:
                fails(self, InvalidOperation, changed_task_by, COOK, value)
        for key in ("name", "sections", "", "Gap", "level"):
            fails(self, InvalidOperation, changed_task, COOK, **{key: 1})
            fails(self, InvalidOperation, changed_task_by, COOK, {"gap": None, key: 1})
        for key in (None, 0, 1, True, ("gap",)):
            fails(self, InvalidOperation, changed_task_by, COOK, {"gap": 40, key: 1})

    def test_then_the_result(self):
        for key in ("longest", "gap", "deadline", "room"):
            for value in WRONG_PARTS[key]:
                fails(self, InvalidTask, changed_task, COOK, **{key: value})
                fails(self, InvalidTask, changed_task_by, COOK, {key: value})


class InsideTest(unittest.TestCase):
    def test_examples(self):
        found = [lock_inside(COOK, 0), lock_inside(COOK, 2), lock_inside(COOK, 3), section_lengths(COOK)]
        self.assertEqual(found, [None, "sink", None, {"sink": 3, "stove": 2}])

    def test_all_ticks(self):
        self.assertEqual([lock_inside(COOK, ran) for ran in range(6)], [None, "sink", "sink", None, "stove", None])

    def test_nothing_is_inside_a_section_of_one_tick(self):
        task = make_task("a", 9, 50, *EIGHT)
        self.assertEqual([lock_inside(task, ran) for ran in range(9)], [None] * 9)
        self.assertEqual(section_lengths(task), {"lock": 1})

    def test_lengths(self):
        task = make_task("a", 20, 50, (0, 2, "z"), (2, 7, "b"), (9, 10, "z"), (10, 14, "z"), (15, 17, "b"))
        self.assertEqual(list(section_lengths(task).items()), [("b", 5), ("z", 4)])
        self.assertEqual(section_lengths(make_task("a", 1, 2)), {})

    def test_a_returned_dict_is_new(self):
        section_lengths(COOK)["sink"] = 9
        self.assertEqual(section_lengths(COOK), {"sink": 3, "stove": 2})

    def test_errors(self):
        for value in PLAIN + OWN:
            fails(self, InvalidTask, section_lengths, value)
            fails(self, InvalidTask, lock_inside, value, None)
        for value in (None, True, False, -1, 6, 10 ** 39, "0", (0,), [], {}, COOK):
            fails(self, InvalidNumber, lock_inside, COOK, value, keeps=("value", value))


if __name__ == "__main__":
    unittest.main()
