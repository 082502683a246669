"""Texts of tasks, levels, plans and papers, and the values that they stand for."""

from holdlevels.errors import InvalidLevels, InvalidOperation, InvalidTasks, Overload, ParseError, TooMany
from holdlevels.runs.plans import check_plan, is_plan
from holdlevels.runs.runs import Run
from holdlevels.tasks.levels import Levels, check_levels
from holdlevels.tasks.tasks import MAX_LETTERS, ROOM, SECTIONS, check_task, is_task
from holdlevels.tasks.tasksets import Tasks, check_tasks
from holdlevels.text.forms import MOST_DIGITS, are_digits, is_paper_form


def format_task(task):
    """Return the text of a task."""
    check_task(task)
    words = [str(part) for part in task[:SECTIONS]]
    for begin, end, lock in task[SECTIONS]:
        words.extend([lock, f"{begin}-{end}"])
    return " ".join(words)


def format_tasks(tasks):
    """Return the text of tasks."""
    check_tasks(tasks)
    return "\n".join([format_task(task) for task in tasks.tasks])


def format_levels(levels):
    """Return the text of levels."""
    check_levels(levels)
    return ", ".join([f"{name} {level}" for name, level in zip(levels.tasks.names, levels.numbers)])


def _job_lines(plan):
    """Return the lines of the jobs of a plan."""
    return [f"{tick} {name} {length}" for tick, name, length in plan]


def format_plan(tasks, plan):
    """Return the text of a plan."""
    check_plan(tasks, plan)
    return "\n".join(_job_lines(plan))


def _step_lines(word, steps):
    """Return the lines of steps, which are names and a plan, each one behind a word."""
    lines = []
    for step in steps:
        lines.append(" ".join([word, *step[:-1]]))
        lines.extend(_job_lines(step[-1]))
    return lines


def _table_lines(tables):
    """Return the lines of the tables of a dict."""
    lines = []
    for name in sorted(tables):
        length, pairs = tables[name]
        words = ["table", name, str(length), *[f"{start}-{end}" for start, end in pairs]]
        lines.append(" ".join(words))
    return lines


def _paper_lines(paper):
    """Return the lines of a levels paper or a state paper."""
    word = paper[0]
    if word == "late":
        return _step_lines("late", (paper[1:],))
    if word == "good":
        return [word, *_table_lines(paper[1])]
    if word == "least":
        return [word, *_step_lines("raise", paper[1]), *_table_lines(paper[2])]
    lines = [word, *_step_lines("step", paper[1])]
    if word == "none":
        return lines + _step_lines("late", (paper[2:],))
    return lines + _table_lines(paper[2])


def format_paper(paper):
    """Return the text of a levels paper or a state paper, which is looked at by its form alone."""
    if not is_paper_form(paper):
        raise InvalidOperation("this has not the form of a levels paper or a state paper")
    return "\n".join(_paper_lines(paper))


def _parts(text, gap):
    """Return the parts of a text between gaps, none for the empty text."""
    if not isinstance(text, str):
        raise ParseError("this is not a text")
    if text == "":
        return []
    return text.split(gap)


def _check_same(text, found):
    """Raise ParseError if a text is not the one of the value that was found in it."""
    if text != found:
        raise ParseError("the value that this stands for has another text")


def _number(word):
    """Return the integer that a word of digits stands for."""
    if not are_digits(word, MOST_DIGITS):
        raise ParseError("this word is not a number")
    return int(word)


def _pair(word):
    """Return the two integers of a word like 0-2."""
    first, _, second = word.partition("-")
    return _number(first), _number(second)


def parse_task(text):
    """Return the task with this text."""
    words = _parts(text, " ")
    if len(words) < SECTIONS:
        raise ParseError("a task has more words")
    numbers = [_number(word) for word in words[1:SECTIONS]]
    # A lock without a word behind it is left over, and so the text is another one.
    sections = tuple([(*_pair(word), lock) for lock, word in zip(words[SECTIONS::2], words[ROOM + 2::2])])
    task = (words[0], *numbers, sections)
    if not is_task(task):
        raise ParseError("there is no such task")
    _check_same(text, format_task(task))
    return task


def parse_tasks(text):
    """Return the tasks with this text."""
    rows = tuple([parse_task(line) for line in _parts(text, "\n")])
    try:
        return Tasks.of(rows)
    except (InvalidTasks, TooMany, Overload):
        raise ParseError("there are no such tasks") from None


def parse_levels(tasks, text):
    """Return the levels of the tasks with this text."""
    check_tasks(tasks)
    numbers = tuple([_number(part.partition(" ")[2]) for part in _parts(text, ", ")])
    try:
        levels = Levels.of(tasks, numbers)
    except InvalidLevels:
        raise ParseError("there are no such levels") from None
    _check_same(text, format_levels(levels))
    return levels


def _job(words):
    """Return the job of three words."""
    if len(words) != 3:
        raise ParseError("a job has three words")
    tick, name, length = words
    return _number(tick), name, _number(length)


def parse_plan(tasks, text):
    """Return the plan of the tasks with this text."""
    check_tasks(tasks)
    plan = tuple([_job(line.split(" ")) for line in _parts(text, "\n")])
    if not is_plan(tasks, plan):
        raise ParseError("there is no such plan of the tasks")
    _check_same(text, format_plan(tasks, plan))
    return plan


def _blocks(text):
    """Return the words of all lines that are no jobs, each with the list of the jobs behind it."""
    blocks = []
    for line in _parts(text, "\n"):
        words = line.split(" ")
        if not "0" <= line[:1] <= "9":
            blocks.append((words, []))
        elif blocks:
            blocks[-1][1].append(_job(words))
        else:
            raise ParseError("a paper does not begin with a job")
    if not blocks:
        raise ParseError("a paper has a line")
    return blocks


def _table(words):
    """Return the table of the words of a line."""
    if len(words) < 3:
        raise ParseError("a table has more words")
    return _number(words[2]), tuple([_pair(word) for word in words[3:]])


def parse_paper(text):
    """Return the levels paper or the state paper with this text."""
    blocks = _blocks(text)
    word = blocks[0][0][0]
    steps = tuple([(*words[1:], tuple(jobs)) for words, jobs in blocks if words[0] in ("step", "raise")])
    late = [part for words, jobs in blocks if words[0] == "late" for part in (*words[1:], tuple(jobs))]
    tables = {words[1]: _table(words) for words, _ in blocks if words[0] == "table" and len(words) > 1}
    papers = {
        "greatest": ("greatest", steps, tables),
        "least": ("least", steps, tables),
        "none": ("none", steps, *late),
        "good": ("good", tables),
        "late": ("late", *late),
    }
    # What stands in lines of another kind, or in another order, is missing in the text of this paper.
    paper = papers.get(word)
    if not is_paper_form(paper):
        raise ParseError("this is not the text of a paper")
    _check_same(text, format_paper(paper))
    return paper


def _signs(run, name):
    """Return the sign of a task for each tick of a run."""
    log = run.log
    rows = [row for row in zip(run.plan, run.starts, run.ends) if row[0][1] == name]
    signs = [" "] * len(log)
    for job, start, _ in rows:
        for tick in range(job[0], start):
            signs[tick] = "."
    # A job can wait while another one of its task is started.
    for _, start, end in rows:
        for tick in range(start, end):
            signs[tick] = "#" if log[tick] == name else "="
    return signs


def chart(levels, plan):
    """Return a text with a line for each task, which shows what it does at each tick of the run."""
    run = Run(levels, plan)
    lines = []
    for name in levels.tasks.names[::-1]:
        line = name.ljust(MAX_LETTERS) + " " + "".join(_signs(run, name))
        lines.append(line.rstrip(" "))
    return "\n".join(lines)
