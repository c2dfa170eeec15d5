"""The form of the package: the interface as it is written, and rules that a machine can see."""

import ast
import builtins
import importlib
import inspect
import os
import unittest

import splitplans

FOLDER = os.path.dirname(splitplans.__file__)

INTERFACE = {
    "errors": ["PlanError", "InputError", "RunError", "SizeError", "InvalidTerm(text)",
               "InvalidTable(name, reason)", "InvalidWorld(reason)", "InvalidStep(reason)",
               "InvalidPlan(number, reason)", "InvalidText(row, word)", "InvalidMenu(index, reason)",
               "UnknownName(name)", "UnknownDeed(index)", "NoMove(exchange, receiver, sender)",
               "NotEnded()", "NothingToUndo()", "TooMany(limit)"],
    "terms": ["Term(kind, name, parts, marked=False)", "row_term(table, marked=False)",
              "column_term(table, name, marked=False)", "place_term(table, marked=False)", "zero_term()",
              "function_term(name, *parts)", "rule_term(name, *parts)"],
    "equalities": ["Equalities(facts=(), keys=None)"],
    "stepcheck": ["shows_same(facts, keys, steps, left, right)", "keeps(facts, keys, numbering)",
                  "shows_apart(facts, keys, numbering, left, right)"],
    "tables": ["Table(name, columns, *, key=(), lies=('anyhow',))"],
    "worlds": ["World(tables, rows, *, workers, functions=None, tests=None, rules=None, anyhow=None)"],
    "plans": ["scan(table)", "Step", "Plan(root, order=())"],
    "needs": ["needs(plan)", "strict(plan, number)", "collapses(plan)", "collapsed(plan, number)"],
    "plain": ["plain(plan, world)", "plain_rows(plan, world, number)"],
    "machine": ["Machine(plan, world)", "First()", "Last()", "Drawn(numbers)", "played(plan, world, moves)"],
    "stories": ["choices(plan)", "fitting(plan, choice, number)", "Story(plan, choice)",
                "pair_facts(plan, choice, number, other)"],
    "places": ["State(term=None, wants=())", "states(plan)", "Failure", "failures(plan)"],
    "orders": ["claims(plan)", "claim_facts(plan, first, second, index)", "claim_holds(plan, first, second, index)",
               "broken_claim(plan)"],
    "papers": ["Paper(lines, cases)", "Line(number, choice, state, reasons)", "paper_of(plan)"],
    "papercheck": ["shows_right(plan, paper)"],
    "runs": ["Run(world, moves)", "run_of(plan)", "breaks(plan, run)", "Verdict", "judge(plan)"],
    "fewest": ["Placing", "fewest(plan, menu)", "placed(plan, menu, at)", "ClosedTable(numberings, pairs, made, sent)"],
    "fewcheck": ["shows_no_fewer(plan, menu, table, cost)"],
    "reports": ["report(plan)"],
    "desk": ["Desk(plan)"],
}

METHODS = {
    ("terms", "Term"): ["read(text)", "second(self)", "row_names(self)", "subterms(self)", "depth",
                        "__eq__(self, other)", "__str__(self)"],
    ("equalities", "Equalities"): [
        "learn(self, left, right)", "follows(self, left, right)", "derive(self, left, right)",
        "numbering(self, *terms)", "suppose(self, pairs, left, right)", "facts", "__len__(self)"],
    ("tables", "Table"): ["with_lie(self, lies)", "with_key(self, *columns)", "__eq__(self, other)", "__str__(self)"],
    ("worlds", "World"): [
        "workers", "rows_of(self, name)", "lying(self, name, worker)", "apply(self, name, values)",
        "holds(self, name, values)", "worker(self, rule, values)", "set_workers(self, workers)",
        "with_workers(self, workers)"],
    ("plans", "Step"): [
        "where(self, test, *columns)", "compute(self, name, function, *columns)", "equal(self, left, right)",
        "keep(self, *columns)", "distinct(self)", "group_by(self, *keys, **measures)", "sort_by(self, *columns)",
        "own_by(self, rule, *columns)", "split_by(self, rule, *columns)", "broadcast(self)", "gather(self)",
        "merge_by(self, *columns)", "join_with(self, other, on)", "semi_with(self, other, on)",
        "anti_with(self, other, on)", "__add__(self, other)"],
    ("plans", "Plan"): [
        "read(text)", "inputs_of(self, number)", "above(self, number)", "below(self, number)", "__len__(self)",
        "__getitem__(self, at)", "__contains__(self, x)", "__iter__(self)", "__eq__(self, other)", "__str__(self)"],
    ("machine", "Machine"): [
        "open_moves(self)", "move(self, exchange, receiver, sender)", "play(self, chooser)", "look_ahead(self, moves)",
        "answer(self)", "rows_at(self, number, worker)", "ended", "moved"],
    ("machine", "First"): ["__call__(self, moves)"],
    ("machine", "Last"): ["__call__(self, moves)"],
    ("machine", "Drawn"): ["__call__(self, moves)"],
    ("stories", "Story"): ["term_of(self, number, column)", "level_of(self, number)", "facts_at(self, level)",
                           "identity(self, number)", "table_keys(self)"],
    ("places", "State"): ["__eq__(self, other)", "__str__(self)"],
    ("papers", "Paper"): ["__iter__(self)"],
    ("desk", "Desk"): ["undoable", "is_right(self)", "set_lie(self, table, lies)", "set_key(self, table, columns)",
                       "put(self, number, exchange)", "take(self, number)", "undo(self)", "try_all(self, deeds)"],
}

VALUES = {
    ("tables", "Table"): {"MOST_COLUMNS": 8},
    ("worlds", "World"): {"MOST_WORKERS": 16},
    ("plans", "Plan"): {"MOST_STEPS": 24, "MOST_TABLES": 5, "MOST_UNIONS": 2, "MOST_ANTIS": 2},
}

LIBRARY = ("heapq", "math", "itertools", "collections", "__future__")

BUILTINS = """len range enumerate zip min max sum abs sorted reversed int str bool bytes list tuple dict set
frozenset isinstance ord repr any all divmod pow getattr hasattr setattr iter next map Exception ValueError
TypeError KeyError IndexError LookupError ZeroDivisionError ArithmeticError OverflowError RuntimeError
NotImplementedError AttributeError StopIteration NotImplemented super property classmethod
staticmethod""".split()

METHODS_OF_VALUES = """append clear copy count endswith extend find get index insert isalnum isalpha isdigit
islower isspace isupper items join keys ljust lower lstrip partition pop remove replace reverse rfind rjust
rpartition rsplit rstrip setdefault split splitlines startswith strip update upper values zfill bit_length
title capitalize swapcase casefold center expandtabs removeprefix removesuffix rindex isascii isdecimal
isnumeric istitle isidentifier isprintable translate maketrans encode decode hex from_bytes sort add discard
format""".split()

# Words that are no name of anything, and those that stand nowhere in the code.
BARRED_NAMES = "register mro elements open input law version_info with_traceback add_note".split()
BARRED_WORDS = """type typing typing_extensions enum Enum IntEnum StrEnum Flag IntFlag Generic Protocol ABC ABCMeta
namedtuple NamedTuple TypedDict TYPE_CHECKING abstractmethod""".split()

STATEMENTS = (ast.Global, ast.AsyncFunctionDef, ast.AsyncFor, ast.AsyncWith, ast.Await, ast.Import, ast.Div)


def files():
    return sorted(name for name in os.listdir(FOLDER) if name != "__pycache__")


def source(name):
    with open(os.path.join(FOLDER, name), encoding="ascii") as file:
        return file.read()


def trees():
    return [(name, ast.parse(source(name))) for name in files()]


def defined_in(tree):
    """The names that a file binds by itself at module level."""
    found = [node.name for node in tree.body if isinstance(node, (ast.FunctionDef, ast.ClassDef))]
    return found + [node.targets[0].id for node in tree.body if isinstance(node, ast.Assign)]


class Interface(unittest.TestCase):
    def test_names_and_parameters(self):
        for module, wanted in INTERFACE.items():
            found = importlib.import_module(f"splitplans.{module}")
            for each in wanted:
                name, bracket, _ = each.partition("(")
                thing = getattr(found, name)
                self.assertEqual(thing.__module__, f"splitplans.{module}")
                if bracket:
                    self.assertEqual(name + str(inspect.signature(thing)), each)

    def test_methods_stand_in_their_class(self):
        for (module, name), wanted in METHODS.items():
            owner = getattr(importlib.import_module(f"splitplans.{module}"), name)
            for each in wanted:
                method = vars(owner)[each.partition("(")[0]]
                if isinstance(method, property):
                    self.assertNotIn("(", each)
                elif isinstance(method, classmethod):
                    self.assertEqual("read" + str(inspect.signature(owner.read)), each)
                else:
                    self.assertEqual(method.__name__ + str(inspect.signature(method)), each)

    def test_class_values(self):
        for (module, name), wanted in VALUES.items():
            owner = getattr(importlib.import_module(f"splitplans.{module}"), name)
            self.assertEqual({each: vars(owner)[each] for each in wanted}, wanted)


class Form(unittest.TestCase):
    def test_files(self):
        self.assertIn("__init__.py", files())
        for name in files():
            self.assertRegex(name, r"^[a-z0-9_]+\.py$")
            rows = source(name).split("\n")
            self.assertLess(len(rows), 400, name)
            for row in rows:
                self.assertLessEqual(len(row), 120, name)
                self.assertRegex(row, r"^[ -~]*$", name)

    def test_functions_are_small(self):
        for name, tree in trees():
            for node in ast.walk(tree):
                if isinstance(node, ast.FunctionDef):
                    self.assertLessEqual(node.end_lineno - node.lineno + 1, 40, (name, node.name))

    def test_imports(self):
        all_trees = dict(trees())
        below = {}
        for name, tree in all_trees.items():
            below[name] = []
            for node in ast.walk(tree):
                if isinstance(node, ast.ImportFrom):
                    self.assertIn(node, tree.body, name)
                    if node.module in LIBRARY:
                        continue
                    package, _, module = node.module.partition(".")
                    self.assertEqual((package, node.level), ("splitplans", 0), name)
                    below[name].append(f"{module}.py")
                    for alias in node.names:
                        self.assertIn(alias.name, defined_in(all_trees[f"{module}.py"]), name)
        # No circles: again and again, leave out the files that import only what is left out.
        while below:
            free = [name for name in below if not any(other in below for other in below[name])]
            self.assertTrue(free, below)
            below = {name: below[name] for name in below if name not in free}

    def test_the_looker_does_not_import_the_maker(self):
        for word in ("equalities", "closure", "derivations"):
            for looker in ("stepcheck.py", "papercheck.py", "casecheck.py", "fewcheck.py", "ground.py"):
                self.assertNotIn(f"splitplans.{word}", source(looker))

    def test_statements(self):
        for name, tree in trees():
            for node in ast.walk(tree):
                self.assertNotIsInstance(node, STATEMENTS, name)
                if isinstance(node, ast.FunctionDef):
                    for decorator in node.decorator_list:
                        self.assertRegex(ast.unparse(decorator),
                                         r"^(property|classmethod|staticmethod|[a-z_]+\.setter)$", name)
                if isinstance(node, ast.Constant) and isinstance(node.value, str):
                    self.assertNotIn("%", node.value, name)

    def test_names(self):
        for name, tree in trees():
            bound = set(defined_in(tree)) | set(BUILTINS)
            bound |= {alias.name for node in tree.body if isinstance(node, ast.ImportFrom) for alias in node.names}
            inside = {node.id for node in ast.walk(tree)
                      if isinstance(node, ast.Name) and isinstance(node.ctx, ast.Store)}
            inside |= {node.arg for node in ast.walk(tree) if isinstance(node, ast.arg)}
            self.assertEqual((inside | set(defined_in(tree))) & set(dir(builtins)), set(), name)
            for node in ast.walk(tree):
                if isinstance(node, ast.Name) and isinstance(node.ctx, ast.Load):
                    self.assertIn(node.id, bound | inside, name)

    def test_called_methods(self):
        own = {node.name for _, tree in trees() for node in ast.walk(tree) if isinstance(node, ast.FunctionDef)}
        for name, tree in trees():
            for node in ast.walk(tree):
                if isinstance(node, ast.Call) and isinstance(node.func, ast.Attribute):
                    called = node.func.attr
                    self.assertTrue(called in METHODS_OF_VALUES or called in own or called == "__init__", called)

    def test_barred_words(self):
        for name, tree in trees():
            for node in ast.walk(tree):
                words = [getattr(node, field, None) for field in ("attr", "name", "id", "arg")]
                for word in [word for word in words if isinstance(word, str)]:
                    self.assertNotIn(word, BARRED_NAMES, name)
                    self.assertNotIn(word, BARRED_WORDS, name)

    def test_no_attribute_hides_the_method_of_a_dict(self):
        """Nothing that an object has is called keys: a plan will be indexed by numbers."""
        for name, tree in trees():
            for node in ast.walk(tree):
                if isinstance(node, ast.Attribute) and isinstance(node.ctx, ast.Store):
                    self.assertNotIn(node.attr, ("keys", "items", "values", "format", "args"), name)
                if isinstance(node, ast.FunctionDef):
                    self.assertNotIn(node.name, ("keys", "format", "mro"), name)

    def test_no_name_is_a_method_and_an_attribute(self):
        alone = set()
        stored = set()
        for name, tree in trees():
            for owner in [node for node in ast.walk(tree) if isinstance(node, ast.ClassDef)]:
                own = [node for node in owner.body if isinstance(node, ast.FunctionDef)]
                mine = {node.attr for node in ast.walk(owner)
                        if isinstance(node, ast.Attribute) and isinstance(node.ctx, ast.Store)}
                self.assertEqual({node.name for node in own if not node.decorator_list} & mine, set(), name)
                alone |= {node.name for node in own if node.decorator_list}
                stored |= {attr for attr in mine if attr != "workers"}
        self.assertEqual(alone & stored, set())

    def test_local_names_are_no_imports_and_no_classes(self):
        for name, tree in trees():
            taken = {alias.name for node in tree.body if isinstance(node, ast.ImportFrom) for alias in node.names}
            used = {node.id for node in ast.walk(tree) if isinstance(node, ast.Name)}
            self.assertLessEqual(taken, used, name)
            taken |= {node.name for node in tree.body if isinstance(node, ast.ClassDef)}
            inside = {node.id for node in ast.walk(tree)
                      if isinstance(node, ast.Name) and isinstance(node.ctx, ast.Store)}
            inside |= {node.arg for node in ast.walk(tree) if isinstance(node, ast.arg)}
            self.assertEqual(inside & taken, set(), name)

    def test_sets_generators_and_identity(self):
        for name, tree in trees():
            above = {below: node for node in ast.walk(tree) for below in ast.iter_child_nodes(node)}
            for node in ast.walk(tree):
                self.assertNotIsInstance(node, (ast.GeneratorExp, ast.Set, ast.SetComp), name)
                if isinstance(node, ast.Call) and isinstance(node.func, ast.Name) and node.func.id == "set":
                    self.assertIn(ast.unparse(above[node].func), ("sorted", "len"), name)
                if isinstance(node, ast.Compare):
                    for sign, right in zip(node.ops, node.comparators):
                        if isinstance(sign, (ast.Is, ast.IsNot)):
                            self.assertIn(ast.unparse(right), ("None", "True", "False"), name)

    def test_stars_in_calls(self):
        """What a star takes apart in a call is a name or an attribute."""
        for name, tree in trees():
            for node in ast.walk(tree):
                if isinstance(node, ast.Call):
                    for part in node.args:
                        if isinstance(part, ast.Starred):
                            self.assertIsInstance(part.value, (ast.Name, ast.Attribute), (name, node.lineno))

    def test_dicts_of_files_are_only_read(self):
        """A dict or list that stands at module level is not passed on, returned or given another name."""
        own = {f"splitplans.{name[:-3]}": [
            node.targets[0].id for node in tree.body
            if isinstance(node, ast.Assign) and isinstance(node.value, (ast.Dict, ast.List))] for name, tree in trees()}
        self.assertIn("DEEDS", own["splitplans.desk"])
        for name, tree in trees():
            shared = own[f"splitplans.{name[:-3]}"] + [
                alias.name for node in tree.body if isinstance(node, ast.ImportFrom)
                for alias in node.names if alias.name in own.get(node.module, ())]
            above = {below: node for node in ast.walk(tree) for below in ast.iter_child_nodes(node)}
            for node in ast.walk(tree):
                if isinstance(node, ast.Name) and node.id in shared and isinstance(node.ctx, ast.Load):
                    over = above[node]
                    copied = isinstance(over, ast.Call) and ast.unparse(over.func) in ("list", "dict", "len")
                    self.assertTrue(copied or isinstance(over, (ast.Subscript, ast.Compare, ast.Attribute)), (name, node.id))

    def test_kept_ranges_and_views(self):
        """What goes over a dict or counts is iterated at once, or a range in a local variable."""
        for name, tree in trees():
            above = {below: node for node in ast.walk(tree) for below in ast.iter_child_nodes(node)}
            for node in ast.walk(tree):
                if not isinstance(node, ast.Call):
                    continue
                called = ast.unparse(node.func)
                over = above[node]
                at_once = isinstance(over, (ast.For, ast.comprehension)) or (
                    isinstance(over, ast.Call) and ast.unparse(over.func) in ("list", "tuple", "dict", "sorted", "sum", "reversed"))
                if called in ("zip", "enumerate", "reversed") or called.endswith((".items", ".keys", ".values")):
                    self.assertTrue(at_once, (name, node.lineno))
                if called == "range":
                    kept = isinstance(over, ast.Assign) and isinstance(over.targets[0], ast.Name)
                    self.assertTrue(at_once or kept or isinstance(over, ast.Compare), (name, node.lineno))
