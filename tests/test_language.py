"""The rules for the files of the package that can be seen in their text, and the places of the interface."""

import ast
import builtins
import os
import re
import tokenize
import unittest

ROOT = os.path.join(os.path.dirname(os.path.dirname(os.path.abspath(__file__))), "holdlevels")
LIBRARY = {"math": {"gcd", "lcm", "isqrt", "comb", "perm", "factorial"}, "heapq": {"heappush", "heappop", "heapify"}}
BUILTINS = set(
    "len range enumerate zip min max sum abs sorted reversed int str bool list tuple dict set isinstance ord repr any all "
    "divmod Exception ValueError TypeError KeyError IndexError LookupError ZeroDivisionError ArithmeticError OverflowError "
    "RuntimeError NotImplementedError AttributeError NotImplemented type property classmethod staticmethod".split()
)
METHODS = set(
    "append clear copy count endswith extend find get index insert isalnum isalpha isdigit islower isspace isupper items join "
    "keys ljust lower lstrip partition pop remove replace reverse rfind rjust rpartition rsplit rstrip setdefault split "
    "splitlines startswith strip update upper values zfill bit_length add discard".split()
)
SPECIAL = set(
    "__init__ __eq__ __repr__ __str__ __len__ __enter__ __exit__ __call__ __iter__ __contains__ __getitem__ __add__ __or__ "
    "__and__".split()
)
BARRED = set(
    "typing typing_extensions enum Enum IntEnum StrEnum Flag IntFlag Generic Protocol ABC ABCMeta namedtuple NamedTuple "
    "TypedDict TYPE_CHECKING abstractmethod register mro elements open input law version_info with_traceback add_note eval exec "
    "exit globals locals vars dir id help os sys compile gc license quit credits".split()
)
NODES = set(
    "Module Expr Constant ImportFrom Assign AugAssign FunctionDef ClassDef arguments arg Return If While For Break Continue Pass "
    "Raise Assert Delete With withitem Yield Try ExceptHandler Name Attribute Subscript Slice Call keyword Starred Tuple List Dict "
    "Set ListComp SetComp DictComp comprehension Lambda IfExp BoolOp And Or UnaryOp Not USub BinOp Add Sub Mult FloorDiv Mod Pow "
    "BitOr BitAnd BitXor LShift RShift Compare Eq NotEq Lt LtE Gt GtE Is IsNot In NotIn JoinedStr FormattedValue Load Store Del "
    "alias".split()
)
FOLDING = ("any", "all", "sum", "min", "max", "sorted")

INTERFACE = {
    "errors": "HoldError InvalidTask InvalidTasks InvalidLevels InvalidPlan InvalidOperation InvalidEdit ParseError "
              "InvalidCommand InvalidNumber UnknownName TooMany Overload NoLevels NothingToUndo",
    "tasks.tasks": "is_name is_task make_task task_by changed_task changed_task_by lock_inside section_lengths",
    "tasks.tasksets": "Tasks.__init__ Tasks.of Tasks.tasks Tasks.names Tasks.load Tasks.locks Tasks.urgency Tasks.above "
                      "Tasks.with_task Tasks.replaced Tasks.without Tasks.only Tasks.moved Tasks.changed Tasks.changed_by "
                      "Tasks.renamed Tasks.renamed_by Tasks.__add__ Tasks.__contains__ Tasks.__len__ Tasks.__eq__ "
                      "Tasks.__str__ Tasks.__getitem__ Tasks.__iter__",
    "tasks.levels": "Levels.__init__ Levels.of Levels.greatest Levels.least Levels.tasks Levels.numbers Levels.__getitem__ "
                    "Levels.reach Levels.with_level Levels.may_interrupt Levels.interrupters Levels.__or__ Levels.__and__ "
                    "Levels.is_within Levels.cut_to Levels.__len__ Levels.__eq__ Levels.__str__ Levels.__iter__ all_levels",
    "runs.plans": "is_plan make_plan plan_of dense_plan dense_plan_of shifted merged without_jobs shortened is_thinner jobs_of "
                  "work_in",
    "runs.machine": "Machine.__init__ Machine.levels Machine.now Machine.plan Machine.log Machine.stack Machine.waiting "
                    "Machine.hold Machine.room Machine.steps Machine.release Machine.tick Machine.walk Machine.back "
                    "Machine.trial Machine.attempt Machine.twin Machine.__eq__ Machine.__str__",
    "runs.runs": "Run.__init__ Run.levels Run.plan Run.log Run.starts Run.ends Run.answers Run.late Run.peak Run.__getitem__ "
                 "Run.stack_at Run.started_at Run.interruptions Run.__len__ Run.__eq__ Run.__str__ Run.__iter__ is_log",
    "runs.windows": "window delay_in visits inside_at",
    "answers.rounds": "round_length start_time end_time answers_by",
    "answers.reached": "worst_plan is_worst_plan reaching_plan late_plan",
    "good.tolerances": "tolerance tolerances least_level",
    "good.judged": "is_good faults state_paper is_state_paper",
    "good.greatest": "lowerings raisings greatest_levels least_levels levels_paper is_levels_paper good_path must_interrupt "
                     "can_interrupt",
    "room.chains": "is_chain chains heaviest_chain most_room rooms room_paper is_room_paper chain_plan",
    "room.threads": "may_share threads is_threads thread_paper is_thread_paper",
    "margins.margins": "margin margins at_margin margin_paper is_margin_paper",
    "margins.growth": "is_harder cut interruptions new_interruptions",
    "live.desk": "Desk.__init__ Desk.tasks Desk.levels Desk.room Desk.steps Desk.kept Desk.keep Desk.do Desk.do_all Desk.undo Desk.redo "
                 "Desk.news Desk.trial Desk.attempt Desk.twin Desk.__getitem__ Desk.__contains__ Desk.__len__ Desk.__eq__ "
                 "Desk.__str__ Desk.__iter__",
    "text.formats": "format_task format_tasks format_levels format_plan format_paper parse_task parse_tasks parse_levels "
                    "parse_plan parse_paper chart",
    "text.shell": "Shell.__init__ Shell.run Shell.run_all Shell.log Shell.levels Shell.desk Shell.__len__ Shell.__str__",
    "answers.worst": "delay delayers worst_answer worst_answers worst_job answer_table is_answer_table shown_by",
}


def files():
    """Return the paths of all files of the package, but for what Python itself puts there."""
    found = []
    for folder, below, names in os.walk(ROOT):
        below[:] = sorted(name for name in below if name != "__pycache__")
        found += [os.path.join(folder, name) for name in sorted(names)]
    return found


def module_of(path):
    """Return the full name of the module in a file."""
    parts = os.path.relpath(path, os.path.dirname(ROOT))[:-3].split(os.sep)
    return ".".join(parts[:-1] if parts[-1] == "__init__" else parts)


def text_of(path):
    with open(path, encoding="utf-8") as file:
        return file.read()


TEXTS = {path: text_of(path) for path in files()}
TREES = {path: ast.parse(text) for path, text in TEXTS.items()}


def nodes(*kinds):
    for path, tree in TREES.items():
        for node in ast.walk(tree):
            if isinstance(node, kinds):
                yield path, node


def bound_names(tree):
    """Return all names that a tree binds, but for imports, attributes and methods."""
    names = set()
    for node in ast.walk(tree):
        if isinstance(node, ast.Name) and isinstance(node.ctx, ast.Store):
            names.add(node.id)
        if isinstance(node, ast.arg):
            names.add(node.arg)
    return names


def top_names(tree):
    """Return the names of the functions and classes and of the assignments at module level."""
    names = {node.name for node in tree.body if isinstance(node, (ast.FunctionDef, ast.ClassDef))}
    return names | {node.targets[0].id for node in tree.body if isinstance(node, ast.Assign)}


def is_kind_asked(node):
    """Return whether a comparison is one like type(x) is int."""
    if not isinstance(node.left, ast.Call) or getattr(node.left.func, "id", None) != "type" or len(node.left.args) != 1:
        return False
    return len(node.ops) == 1 and isinstance(node.ops[0], (ast.Is, ast.IsNot)) and getattr(node.comparators[0], "id", None) == "int"


class LanguageTest(unittest.TestCase):
    def test_files_and_folders(self):
        for path in files():
            self.assertRegex(os.path.basename(path), r"^(__init__|[a-z][a-z0-9_]*)\.py$")
            self.assertIn(os.path.join(os.path.dirname(path), "__init__.py"), TEXTS)
            self.assertFalse(os.path.isdir(path[:-3]))

    def test_sizes_and_signs(self):
        for path, text in TEXTS.items():
            self.assertLessEqual(text.count("\n"), 399, path)
            for line in text.split("\n"):
                self.assertLessEqual(len(line), 120, (path, line))
                self.assertRegex(line, r"^[ -~]*$", path)
        for path, node in nodes(ast.FunctionDef):
            self.assertLessEqual(node.end_lineno - node.lineno + 1, 40, (path, node.name))

    def test_kinds_of_statements_and_expressions(self):
        for path, node in nodes(ast.AST):
            self.assertIn(node.__class__.__name__, NODES, (path, getattr(node, "lineno", None)))

    def test_imports(self):
        needs = {}
        for path, tree in TREES.items():
            needs[module_of(path)] = []
            for node in ast.walk(tree):
                if isinstance(node, ast.ImportFrom):
                    self.assertIn(node, tree.body)
                    self.assertEqual(node.level, 0)
                    names = [alias.name for alias in node.names]
                    self.assertTrue(all([alias.asname is None for alias in node.names]))
                    if node.module in LIBRARY:
                        self.assertLessEqual(set(names), LIBRARY[node.module])
                    else:
                        home = [other for other in TREES if module_of(other) == node.module]
                        self.assertEqual(len(home), 1, node.module)
                        self.assertLessEqual(set(names), top_names(TREES[home[0]]), (path, node.module))
                        needs[module_of(path)].append(node.module)
                    for name in names:
                        uses = [at for at in ast.walk(tree) if isinstance(at, ast.Name) and at.id == name]
                        self.assertTrue(uses, (path, name, "is imported and not used"))
        done = set()
        while len(done) < len(needs):
            free = {name for name in needs if name not in done and set(needs[name]) <= done}
            self.assertTrue(free, "files import from each other")
            done |= free

    def test_names(self):
        for path, tree in TREES.items():
            imported = {alias.name for node in ast.walk(tree) if isinstance(node, ast.ImportFrom) for alias in node.names}
            classes = {node.name for node in ast.walk(tree) if isinstance(node, ast.ClassDef)}
            for name in bound_names(tree) | top_names(tree):
                self.assertNotIn(name, dir(builtins), path)
                self.assertNotIn(name, imported, path)
                self.assertFalse(name.startswith("__"), (path, name))
            self.assertFalse(bound_names(tree) & classes, path)
            for node in tree.body:
                if isinstance(node, ast.Assign):
                    self.assertEqual([target.__class__ for target in node.targets], [ast.Name], path)
            bound = bound_names(tree) | top_names(tree) | imported
            for node in ast.walk(tree):
                if isinstance(node, ast.Name) and node.id not in bound:
                    self.assertIn(node.id, BUILTINS, (path, node.lineno))

    def test_words(self):
        for path in TEXTS:
            with open(path, "rb") as file:
                for token in tokenize.tokenize(file.readline):
                    if token.type in (tokenize.NAME, tokenize.STRING) and not token.string.startswith('"""'):
                        for word in re.findall(r"\w+", token.string):
                            self.assertNotIn(word, BARRED, (path, token.start))
                            self.assertNotIn("overload", word, (path, token.start))
                            self.assertNotIn("dataclass", word, (path, token.start))
                            self.assertNotIn("contextmanager", word, (path, token.start))

    def test_strings_and_numbers(self):
        for path, node in nodes(ast.Constant):
            self.assertNotIsInstance(node.value, (float, complex, bytes), path)
            if isinstance(node.value, str):
                self.assertNotIn("%", node.value, (path, node.lineno))

    def test_folding_takes_no_generator_expression(self):
        # GeneratorExp is not among the nodes; so only generators are looked for.
        generators = {node.name for _, node in nodes(ast.FunctionDef)
                      if any([isinstance(below, (ast.Yield, ast.YieldFrom)) for below in ast.walk(node)])}
        for path, node in nodes(ast.Call):
            if isinstance(node.func, ast.Name) and node.func.id in FOLDING:
                for below in node.args:
                    if isinstance(below, ast.Call):
                        name = getattr(below.func, "id", getattr(below.func, "attr", None))
                        self.assertNotIn(name, generators, (path, node.lineno))

    def test_functions(self):
        for path, node in nodes(ast.FunctionDef):
            if node.name.startswith("__"):
                self.assertIn(node.name, SPECIAL, path)
            for decorator in node.decorator_list:
                self.assertIn(getattr(decorator, "id", getattr(decorator, "attr", None)), ("property", "classmethod", "setter"))
            self.assertIsNone(node.returns)
            self.assertTrue(ast.get_docstring(node) or node.name.startswith("__"), (path, node.name))

    def test_calls_of_methods(self):
        own = {node.name for _, node in nodes(ast.FunctionDef)}
        for path, node in nodes(ast.Call):
            if isinstance(node.func, ast.Attribute):
                self.assertIn(node.func.attr, own | METHODS, (path, node.lineno))

    def test_kinds_are_asked_for_beside_a_name(self):
        asked = [node.left.func for _, node in nodes(ast.Compare) if is_kind_asked(node)]
        for path, node in nodes(ast.Name):
            if node.id == "type":
                self.assertIn(node, asked, (path, node.lineno))
        for path in TEXTS:
            with open(path, "rb") as file:
                for token in tokenize.tokenize(file.readline):
                    self.assertFalse(token.type == tokenize.STRING and re.search(r"\btype\b", token.string), path)

    def test_stars_in_calls_stand_before_names(self):
        for path, node in nodes(ast.Call):
            for below in node.args:
                if isinstance(below, ast.Starred):
                    self.assertIsInstance(below.value, (ast.Name, ast.Attribute, ast.List, ast.Tuple), (path, node.lineno))

    def test_names_that_are_kept_for_others(self):
        for path, text in TEXTS.items():
            for name in re.findall(r"\b_[A-Za-z_0-9]*", text):
                self.assertNotRegex(name, r"^(_wall|_pe_|_dcw_|_enum_|_cm_|_twin_re_|_lay_|_law_|_stub_|_sre|_WallAttr)", path)
                self.assertNotRegex(name, r"^_(cold|tuplegetter|outside|record|written_out|member_names)[0-9_]*$", path)

    def test_is(self):
        for path, node in nodes(ast.Compare):
            for operator, right in zip(node.ops, node.comparators):
                if isinstance(operator, (ast.Is, ast.IsNot)) and not is_kind_asked(node):
                    self.assertTrue(isinstance(right, ast.Constant) and right.value in (None, True, False), path)

    def test_attributes_are_no_methods(self):
        methods = {}
        attributes = {}
        for path, node in nodes(ast.ClassDef):
            below = list(ast.walk(node))
            methods[node.name] = {at.name for at in below if isinstance(at, ast.FunctionDef)}
            attributes[node.name] = {
                at.attr for at in below if isinstance(at, ast.Attribute) and isinstance(at.ctx, ast.Store)
            }
            # A property and its setter are one.
            setters = [at for at in below if isinstance(at, ast.Attribute) and at.attr == "setter"]
            self.assertEqual(len(methods[node.name]) + len(setters), len([at for at in below if isinstance(at, ast.FunctionDef)]))
        all_methods = set().union(*methods.values())
        for name in attributes:
            self.assertFalse(attributes[name] & all_methods, name)

    def test_generators_have_names_of_their_own(self):
        names = [node.name for _, node in nodes(ast.FunctionDef)]
        # The interface gives this name to a generator of runs and to a function: so nothing in the package calls either.
        self.assertEqual([node.name for _, node in nodes(ast.FunctionDef) if node.name == "interruptions"], ["interruptions"] * 2)
        for path, node in nodes(ast.Name, ast.Attribute):
            self.assertNotEqual(getattr(node, "id", getattr(node, "attr", None)), "interruptions", path)
        names.remove("interruptions")
        for path, node in nodes(ast.FunctionDef):
            if any([isinstance(below, ast.Yield) for below in ast.walk(node)]):
                self.assertEqual(names.count(node.name), 1, node.name)

    def test_bodies_of_comparisons_and_texts_assign_nothing(self):
        for path, node in nodes(ast.FunctionDef):
            if node.name in ("__eq__", "__repr__", "__str__", "__len__"):
                for below in ast.walk(node):
                    self.assertNotIsInstance(below, (ast.Assign, ast.AugAssign), (path, node.name))
                self.assertIsInstance(node.body[-1], ast.Return)

    def test_a_class_with_items_says_that_it_is_not_iterated(self):
        for path, node in nodes(ast.ClassDef):
            names = {at.name for at in node.body if isinstance(at, ast.FunctionDef)}
            self.assertTrue("__getitem__" not in names or "__iter__" in names, node.name)


class InterfaceTest(unittest.TestCase):
    def test_everything_is_defined_where_the_interface_lists_it(self):
        trees = {module_of(path): tree for path, tree in TREES.items()}
        for module, names in INTERFACE.items():
            body = trees["holdlevels." + module].body
            for name in names.split():
                rows = body
                for part in name.split("."):
                    found = [node for node in rows if isinstance(node, (ast.FunctionDef, ast.ClassDef)) and node.name == part]
                    found = [node for node in found if "setter" not in [getattr(at, "attr", None) for at in node.decorator_list]]
                    self.assertEqual(len(found), 1, (module, name))
                    rows = found[0].body


if __name__ == "__main__":
    unittest.main()
