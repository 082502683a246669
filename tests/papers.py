"""A slow second way to check papers, told as in 0.15 to 0.17 and 12.3, and papers with one part otherwise."""

from holdlevels.runs.plans import is_plan
from holdlevels.tasks.levels import Levels, all_levels
from tests.reference import is_table_told, played, some_levels, worst_told


def tight_tasks(luck, tasks):
    """Return the tasks with deadlines near the worst answers under some levels."""
    levels = luck.choice([Levels.greatest(tasks), some_levels(luck, tasks)])
    worst = {name: worst_told(levels, name) for name in tasks.names}
    for name in tasks.names:
        tasks = tasks.changed(name, deadline=max(1, worst[name] + luck.choice([0, 0, 0, 0, 1, 2, 5, -1])))
    return tasks


def are_good_told(levels):
    """Return whether no worst answer is greater than the deadline."""
    tasks = levels.tasks
    return all([worst_told(levels, name) <= tasks[name][3] for name in tasks.names])


def good_ones(tasks):
    """Return all good levels."""
    return [levels for levels in all_levels(tasks) if are_good_told(levels)]


def late_names(levels, plan):
    """Return the names of the tasks of which a job is late in the run."""
    ends = played(levels, plan)[3]
    return {job[1] for job, end in zip(plan, ends) if end - job[0] > levels.tasks[job[1]][3]}


def lower_names(tasks, name, plan):
    """Return the names of the less urgent jobs of a plan."""
    return [job[1] for job in plan if tasks.names.index(job[1]) < tasks.names.index(name)]


def tables_told(levels, tables):
    """Return whether these are tables of all tasks that show at most the deadlines."""
    tasks = levels.tasks
    if not isinstance(tables, dict) or sorted(tables, key=repr) != sorted(tasks.names, key=repr):
        return False
    for name, table in tables.items():
        if not is_numbers(table) or not is_table_told(levels, name, table):
            return False
        if max([end - k * tasks[name][2] for k, (_, end) in enumerate(table[1])]) > tasks[name][3]:
            return False
    return True


def is_numbers(table):
    """Return whether the value has the form of a table."""
    if not isinstance(table, tuple) or len(table) != 2 or not isinstance(table[1], tuple):
        return False
    for pair in table[1]:
        if not isinstance(pair, tuple) or len(pair) != 2:
            return False
    return all([type(number) is int for pair in ((table[0], 0),) + table[1] for number in pair])


def is_late_told(levels, name, plan):
    """Return whether the value is a plan with at most one less urgent job in whose run a job of the task is late."""
    tasks = levels.tasks
    return is_plan(tasks, plan) and len(lower_names(tasks, name, plan)) <= 1 and name in late_names(levels, plan)


def behind_told(tasks, word, rows):
    """Return the levels behind steps or raises, or None."""
    names = list(tasks.names)
    levels = Levels.least(tasks) if word == "least" else Levels.greatest(tasks)
    if not isinstance(rows, tuple):
        return None
    for row in rows:
        if not isinstance(row, tuple) or len(row) != (2 if word == "least" else 3):
            return None
        if [name for name in row[:-1] if name not in names]:
            return None
        delayed, plan = row[-2:]
        place = names.index(delayed)
        if not is_late_told(levels, delayed, plan):
            return None
        if word == "least":
            if levels[delayed] >= len(tasks) - 1:
                return None
            levels = levels.with_level(delayed, levels[delayed] + 1)
        else:
            if not names.index(row[0]) < place <= levels[row[0]] or lower_names(tasks, delayed, plan) not in ([], [row[0]]):
                return None
            levels = levels.with_level(row[0], place - 1)
    return levels


def is_levels_paper_told(tasks, value):
    """Return whether the value is a levels paper."""
    if not isinstance(value, tuple) or len(value) < 3 or value[0] not in ("greatest", "least", "none"):
        return False
    levels = behind_told(tasks, value[0], value[1])
    if levels is None or len(value) != (4 if value[0] == "none" else 3):
        return False
    if value[0] != "none":
        return tables_told(levels, value[2])
    _, _, name, plan = value
    if name not in list(tasks.names) or not is_plan(tasks, plan):
        return False
    for lower in lower_names(tasks, name, plan):
        levels = levels.with_level(lower, tasks.urgency(lower))
    return is_late_told(levels, name, plan)


def is_state_paper_told(levels, value):
    """Return whether the value is a state paper."""
    if not isinstance(value, tuple) or len(value) < 2:
        return False
    if value[0] == "good":
        return len(value) == 2 and tables_told(levels, value[1])
    if value[0] != "late" or len(value) != 3 or value[1] not in list(levels.tasks.names) or not is_plan(levels.tasks, value[2]):
        return False
    return value[1] in late_names(levels, value[2])


WORDS = ("greatest", "least", "none", "good", "late", "", "Late")


def altered(luck, names, value):
    """Return a value in which one part anywhere, a name, a number or a word, is another one, or is missing or there twice."""
    if isinstance(value, dict):
        key = luck.choice(sorted(value)) if value else None
        if key is None or luck.random() < 0.2:
            if key is not None and luck.random() < 0.5:
                return {name: value[name] for name in value if name != key}
            return {**value, luck.choice(["x", 1, None, key]): ()}
        return {**value, key: altered(luck, names, value[key])}
    if isinstance(value, tuple):
        way = luck.random()
        if not value:
            return luck.choice([(()), ((),), (1,), [], None])
        at = luck.randrange(len(value))
        if way < 0.08:
            return value[:at] + value[at + 1:]
        if way < 0.12:
            return value[:at] + (value[at],) + value[at:]
        if way < 0.15:
            return list(value)
        if way < 0.2:
            return value[::-1]
        return value[:at] + (altered(luck, names, value[at]),) + value[at + 1:]
    if isinstance(value, int):
        return luck.choice([value - 1, value + 1, value + luck.randint(1, 50), -value, 0, 10 ** 39, str(value), None, value == 1])
    if value in WORDS:
        return luck.choice(WORDS + (None, 0, (value,)))
    return luck.choice(list(names) + ["zz", "", None, (value,)])
