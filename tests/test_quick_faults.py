"""12.2: faults, which are to be found soon, with and without good levels."""

import random
import unittest

from holdlevels.good.judged import faults
from holdlevels.good.tolerances import tolerance
from holdlevels.tasks.levels import Levels
from tests.reference import busy_tasks, held_off, locked_tasks, some_levels, some_tasks
from tests.samples import CAR, calls_of
from tests.test_quick_levels import HARD, SAME, hard_tasks


class FaultTest(unittest.TestCase):
    def told(self, levels):
        """Return the faults as 12.2 tells them."""
        tasks = levels.tasks
        rows = []
        for name in tasks.names:
            borne = tolerance(tasks, name, levels[name])
            if borne is None:
                rows.append((name, None, None, 0))
                continue
            found = {(tasks.urgency(lower), lock is not None, lock or "", ticks) for ticks, lower, lock in held_off(levels, name) if ticks > borne}
            rows += [(name, tasks.names[lower], lock or None, ticks) for lower, _, lock, ticks in sorted(found)]
        return rows

    def test_the_issue(self):
        self.assertEqual([list(faults(Levels.least(SAME))), list(faults(Levels.greatest(SAME)))], [[], []])
        self.assertEqual(list(faults(Levels.least(HARD))), [("b", None, None, 0), ("c", None, None, 0)])
        self.assertEqual(list(faults(Levels.greatest(HARD))), [("b", None, None, 0), ("c", "b", None, 8), ("d", "b", None, 8), ("d", "c", None, 8)])

    def test_as_told(self):
        luck = random.Random(151)
        found = {}
        for at in range(400):
            tasks = hard_tasks(luck) if at % 2 else luck.choice([some_tasks, busy_tasks, locked_tasks])(luck)
            for levels in (Levels.least(tasks), Levels.greatest(tasks), some_levels(luck, tasks)):
                rows = self.told(levels)
                self.assertEqual(list(faults(levels)), rows)
                for row in rows:
                    kind = (row[1] is None, row[2] is None)
                    found[kind] = found.get(kind, 0) + 1
        self.assertEqual(sorted(found), [(False, False), (False, True), (True, True)])
        self.assertGreater(min(found.values()), 50)

    def test_each_one_when_it_is_asked_for(self):
        many = calls_of(lambda: list(faults(Levels.greatest(HARD))))
        self.assertLess(calls_of(lambda: next(faults(Levels.greatest(HARD)))), many)
        it = faults(Levels.greatest(HARD))
        self.assertIs(iter(it), it)
        self.assertEqual([next(it), *it], self.told(Levels.greatest(HARD)))

    def test_how_much_is_done(self):
        # There were 758 to 788 calls of functions for each of these once.
        for tasks in (SAME, HARD, CAR):
            for levels in (Levels.least(tasks), Levels.greatest(tasks)):
                self.assertLess(calls_of(lambda: list(faults(levels))), 200)


if __name__ == "__main__":
    unittest.main()
