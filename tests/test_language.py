"""The rules of the language, as far as a reader of the code can see them by themselves."""

import ast
import builtins
import functools
import re
import sys
import unittest
from pathlib import Path

ROOT = Path(__file__).resolve().parent.parent
PACKAGE = ROOT / "metorshut"

BUILTINS = set(
    "len range enumerate zip min max sum abs sorted reversed int str bool bytes list tuple dict set frozenset"
    " isinstance ord repr any all divmod pow getattr hasattr setattr iter next map"
    " Exception ValueError TypeError KeyError IndexError LookupError ZeroDivisionError ArithmeticError"
    " OverflowError RuntimeError NotImplementedError StopIteration NotImplemented property classmethod".split()
)
METHODS = set(
    "append clear copy count endswith extend find get index insert isalnum isalpha isdigit islower isspace"
    " isupper items join keys ljust lower lstrip partition pop remove replace reverse rfind rjust rpartition"
    " rsplit rstrip setdefault split splitlines startswith strip update upper values zfill bit_length".split()
)
DUNDERS = {"__init__", "__enter__", "__exit__"}
NOWHERE = set("register mro elements open input law version_info with_traceback add_note".split())
NO_NAMES = set(
    "attrgetter breakpoint builtins compile copyright credits delattr dir eval exec exit gc getattr globals"
    " hasattr help id importlib license locals methodcaller os quit setattr super type vars sys".split()
)
NO_WORDS = set(
    "type typing typing_extensions enum Enum IntEnum StrEnum Flag IntFlag Generic Protocol ABC ABCMeta namedtuple"
    " NamedTuple TypedDict TYPE_CHECKING abstractmethod".split()
)
BAD_STARTS = ("_wall", "_pe_", "_dcw_", "_enum_", "_cm_", "_twin_re_", "_lay_", "_law_", "_stub_", "_sre")
BAD_STEMS = ("_cold", "_tuplegetter", "_outside", "_record", "_written_out", "_member_names")
VALUE_METHODS = set()
for made in ("", 0, [], {}, set(), b"", ()):
    VALUE_METHODS.update(name for name in dir(made) if not name.startswith("_"))
AT_ONCE = {"zip", "enumerate", "reversed", "range"}
VIEWS = {"items", "keys", "values"}
TAKERS = {"list", "tuple", "dict", "sorted", "sum", "any", "all", "enumerate", "zip", "min", "max"}
STATEMENTS = (
    ast.Assign, ast.AugAssign, ast.If, ast.While, ast.For, ast.Return, ast.Break, ast.Continue, ast.Pass, ast.Raise,
    ast.Assert, ast.Delete, ast.Expr, ast.FunctionDef, ast.ClassDef, ast.ImportFrom, ast.Try, ast.With,
)


@functools.cache
def files():
    return sorted(PACKAGE.glob("*.py"))


@functools.cache
def trees():
    return {path.name: ast.parse(path.read_text()) for path in files()}


def names_of(function):
    """The parameters and local variables of a function, without those of comprehensions."""
    args = function.args
    found = {arg.arg for arg in [*args.args, *args.kwonlyargs, args.vararg, args.kwarg] if arg is not None}
    return found | {node.id for node in ast.walk(function) if isinstance(node, ast.Name)
                    and isinstance(node.ctx, ast.Store)}


def literal(node, above):
    """Whether a value at module level is plain."""
    if isinstance(node, ast.Constant):
        return True
    if isinstance(node, ast.Name):
        return node.id in above
    if isinstance(node, (ast.Tuple, ast.List)):
        return all(literal(part, above) for part in node.elts)
    if isinstance(node, ast.Dict):
        return all(literal(part, above) for part in [*node.keys, *node.values])
    return False


class Language(unittest.TestCase):
    def each(self, *kinds):
        for name, tree in trees().items():
            for node in ast.walk(tree):
                if isinstance(node, kinds):
                    yield f"{name}:{node.lineno}", node

    def test_files(self):
        self.assertLessEqual(len(files()), 100)
        for path in PACKAGE.iterdir():
            if path.name == "__pycache__":
                continue
            self.assertRegex(path.name, r"\A[a-z0-9_]+\.py\Z")
            stem = path.stem
            self.assertFalse(stem in dir(builtins) or stem in NO_WORDS | NOWHERE, stem)
            self.assertFalse(re.match(r"law_|test", stem), stem)
        self.assertNotIn("metorshut", sys.stdlib_module_names)

    def test_characters_and_sizes(self):
        for path in files():
            text = path.read_text()
            self.assertTrue(all(one == "\n" or " " <= one <= "~" for one in text), path.name)
            lines = text.split("\n")
            self.assertLessEqual(len(lines), 399, path.name)
            self.assertLessEqual(max(len(line) for line in lines), 120, path.name)
            self.assertTrue(text.endswith("\n") and not text.endswith("\n\n"), path.name)
            self.assertFalse(any(line != line.rstrip() for line in lines), path.name)
        for where, node in self.each(ast.FunctionDef):
            self.assertLessEqual(node.end_lineno - node.lineno + 1, 40, where)

    def test_imports(self):
        places = {}
        wanted = {}
        for name, tree in trees().items():
            module = "metorshut." + name[:-3]
            places[module] = {node.name for node in tree.body if isinstance(node, (ast.FunctionDef, ast.ClassDef))}
            for node in tree.body:
                if isinstance(node, ast.Assign):
                    places[module].add(node.targets[0].id)
            wanted[module] = [node for node in tree.body if isinstance(node, ast.ImportFrom)]
            heads = [node for node in tree.body if not isinstance(node, ast.Expr)]
            self.assertEqual(heads[:len(wanted[module])], wanted[module], name)
        for module, nodes in wanted.items():
            bound = [alias.name for node in nodes for alias in node.names]
            self.assertEqual(len(bound), len(set(bound)), module)
            self.assertFalse(set(bound) & places[module], module)
            for node in nodes:
                self.assertEqual(node.level, 0)
                for alias in node.names:
                    self.assertIsNone(alias.asname)
                    self.assertIn(alias.name, places[node.module], (module, alias.name))
        reached = {module: {node.module for node in nodes} for module, nodes in wanted.items()}
        for _ in reached:
            for module, others in reached.items():
                others.update(*[reached[other] for other in list(others)])
        for module, others in reached.items():
            self.assertNotIn(module, others)

    def test_every_import_is_used(self):
        for name, tree in trees().items():
            used = {node.id for node in ast.walk(tree) if isinstance(node, ast.Name)}
            for node in tree.body:
                if isinstance(node, ast.ImportFrom):
                    for alias in node.names:
                        self.assertIn(alias.name, used, name)

    def test_module_level(self):
        for name, tree in trees().items():
            above = set()
            for at, node in enumerate(tree.body):
                if isinstance(node, ast.Expr):
                    self.assertTrue(at == 0 and isinstance(node.value, ast.Constant), name)
                elif isinstance(node, ast.Assign):
                    self.assertEqual(len(node.targets), 1)
                    self.assertIsInstance(node.targets[0], ast.Name)
                    self.assertTrue(literal(node.value, above), (name, node.lineno))
                    inner = getattr(node.value, "elts", None) or getattr(node.value, "values", [])
                    self.assertFalse(any(isinstance(part, (ast.List, ast.Dict)) for part in inner))
                    self.assertNotIn(node.targets[0].id, above)
                else:
                    self.assertIsInstance(node, (ast.FunctionDef, ast.ClassDef, ast.ImportFrom), name)
                if isinstance(node, (ast.FunctionDef, ast.ClassDef)):
                    self.assertNotIn(node.name, above)
                    above.add(node.name)

    def test_nothing_changes_what_stands_at_module_level(self):
        for name, tree in trees().items():
            tables = {node.targets[0].id for node in tree.body if isinstance(node, ast.Assign)}
            for node in ast.walk(tree):
                if isinstance(node, ast.Call) and isinstance(node.func, ast.Attribute):
                    if isinstance(node.func.value, ast.Name) and node.func.value.id in tables:
                        self.assertIn(node.func.attr, ("get", "items", "index", "count"), name)
                if isinstance(node, ast.Subscript) and isinstance(node.ctx, (ast.Store, ast.Del)):
                    self.assertFalse(isinstance(node.value, ast.Name) and node.value.id in tables, name)

    def test_statements(self):
        for where, node in self.each(ast.stmt):
            self.assertIsInstance(node, STATEMENTS, where)
            if isinstance(node, ast.Expr) and not isinstance(node.value, (ast.Call, ast.Yield, ast.YieldFrom)):
                self.assertTrue(isinstance(node.value, ast.Constant) and isinstance(node.value.value, str), where)
        for where, node in self.each(ast.FunctionDef, ast.ClassDef):
            decorators = [ast.unparse(one) for one in node.decorator_list]
            self.assertIn(decorators, ([], ["property"], ["classmethod"]), where)

    def test_expressions(self):
        barred = (ast.SetComp, ast.Set, ast.Await, ast.NamedExpr, ast.Lambda, ast.GeneratorExp, ast.Pow, ast.Div)
        for name, tree in trees().items():
            for node in ast.walk(tree):
                self.assertNotIsInstance(node, barred, name)
                if isinstance(node, ast.Constant):
                    self.assertNotIsInstance(node.value, (float, complex, bytes), name)
                if isinstance(node, ast.Compare):
                    for op, right in zip(node.ops, node.comparators):
                        if isinstance(op, (ast.Is, ast.IsNot)):
                            self.assertIsInstance(right, ast.Constant, name)
                if isinstance(node, (ast.arg, ast.FunctionDef)):
                    self.assertIsNone(getattr(node, "annotation", None) or getattr(node, "returns", None), name)

    def test_attributes_are_assigned_through_names(self):
        for where, node in self.each(ast.Attribute):
            if isinstance(node.ctx, ast.Store):
                self.assertIsInstance(node.value, ast.Name, where)

    def test_stars_stand_over_names(self):
        for where, node in self.each(ast.Starred):
            self.assertIsInstance(node.value, ast.Name, where)

    def test_builtins(self):
        for where, node in self.each(ast.Name):
            if isinstance(node.ctx, ast.Load) and node.id in dir(builtins) and node.id != "super":
                self.assertIn(node.id, BUILTINS, where)

    def test_names(self):
        given = []
        for where, node in self.each(ast.Name, ast.arg, ast.FunctionDef, ast.ClassDef, ast.Attribute):
            if isinstance(node, ast.Attribute):
                self.assertNotIn(node.attr, NOWHERE, where)
                given.append((where, node.attr, True))
            elif isinstance(node, ast.Name):
                if isinstance(node.ctx, ast.Store):
                    given.append((where, node.id, False))
                elif node.id == "_":
                    self.fail(where)
            else:
                given.append((where, node.arg if isinstance(node, ast.arg) else node.name, False))
        for where, name, is_attribute in given:
            self.assertTrue(name == "_" or name in DUNDERS or re.fullmatch(r"_?[A-Za-z][A-Za-z0-9_]*", name), where)
            self.assertFalse(name.startswith(BAD_STARTS) or re.sub(r"[0-9_]+\Z", "", name) in BAD_STEMS, where)
            self.assertNotIn(name, NOWHERE, where)
            self.assertFalse(re.match(r"(f|tb|co|gi|cr|ag)_[a-z]+\Z", name), where)
            if not is_attribute:
                self.assertNotIn(name, NO_NAMES, where)
                self.assertFalse(name in dir(builtins), (where, name))

    def test_words(self):
        for path in files():
            tree = ast.parse(path.read_text())
            plain = {ast.get_docstring(node, clean=False) for node in ast.walk(tree)
                     if isinstance(node, (ast.Module, ast.FunctionDef, ast.ClassDef))}
            for node in ast.walk(tree):
                if isinstance(node, ast.Constant) and isinstance(node.value, str) and node.value not in plain:
                    self.assertFalse(set(re.findall(r"\w+", node.value)) & (NO_WORDS - {"type"}), path.name)
                    self.assertNotIn("%", node.value)
                    self.assertFalse(node.value.endswith(("._", ".__")) or node.value.startswith("__"))
                if isinstance(node, (ast.Name, ast.Attribute)):
                    self.assertNotIn(getattr(node, "id", getattr(node, "attr", "")), NO_WORDS, path.name)
            text = path.read_text()
            self.assertIsNone(re.search(r"dataclass|overload|contextmanager|_wall|_WallAttr", text), path.name)
            self.assertIsNone(re.search(r"\\[^nt\\\"']", text), path.name)

    def test_imports_are_not_shadowed(self):
        for name, tree in trees().items():
            top = {alias.name for node in tree.body if isinstance(node, ast.ImportFrom) for alias in node.names}
            top |= {node.name for node in tree.body if isinstance(node, ast.ClassDef)}
            for node in ast.walk(tree):
                if isinstance(node, ast.FunctionDef):
                    self.assertFalse(names_of(node) & top, (name, node.name))

    def test_methods_and_attributes(self):
        methods, attributes, generators, functions, properties = {}, {}, set(), set(), set()
        for name, tree in trees().items():
            for node in ast.walk(tree):
                if isinstance(node, ast.FunctionDef):
                    functions.add(node.name)
                    if any(isinstance(part, (ast.Yield, ast.YieldFrom)) for part in ast.walk(node)):
                        generators.add(node.name)
                if isinstance(node, ast.ClassDef):
                    own = [part for part in node.body if isinstance(part, ast.FunctionDef)]
                    self.assertEqual(len(own), len({part.name for part in own}), name)
                    properties |= {part.name for part in own if part.decorator_list}
                    methods[node.name] = {part.name for part in own}
                    attributes[node.name] = {
                        part.attr for part in ast.walk(node) if isinstance(part, ast.Attribute)
                        and isinstance(part.ctx, ast.Store)
                    }
                    dunders = {part.name for part in own if part.name.startswith("__")}
                    self.assertLessEqual(dunders, DUNDERS, name)
        every_method = set().union(*methods.values())
        every_attribute = set().union(*attributes.values())
        self.assertFalse(every_method & every_attribute)
        self.assertFalse((every_method - DUNDERS) & (VALUE_METHODS - METHODS))
        self.assertFalse(every_attribute & VALUE_METHODS)
        self.assertFalse(every_attribute & {"args", "format", "encode", "decode", "hex"})
        self.assertFalse(generators & set().union(*[{n for n in names_of(node)} for _, node in
                                                     self.each(ast.FunctionDef)]))
        self.assertFalse(properties & functions - properties)
        for where, node in self.each(ast.Attribute):
            self.assertIn(node.attr, every_method | every_attribute | METHODS, where)

    def test_called_as_defined(self):
        """A head is (how many by place, how many of them with defaults, whether any more, those by name)."""
        taken = {}
        for _, tree in trees().items():
            for node in ast.walk(tree):
                if isinstance(node, ast.ClassDef):
                    made = [part for part in node.body if isinstance(part, ast.FunctionDef)
                            and part.name == "__init__"]
                    taken.setdefault(node.name, []).append(self.head(made[0]) if made else (0, 0, False, []))
                elif isinstance(node, ast.FunctionDef) and not node.name.startswith("__"):
                    taken.setdefault(node.name, []).append(self.head(node))
        # What a class method calls cls is its class.
        taken["cls"] = taken["Maker"]
        for where, node in self.each(ast.Call):
            name = node.func.id if isinstance(node.func, ast.Name) else getattr(node.func, "attr", None)
            if name not in taken or name in METHODS:
                self.assertEqual(node.keywords, [], where)
                continue
            if any(isinstance(arg, ast.Starred) for arg in node.args):
                continue
            named = [keyword.arg for keyword in node.keywords]
            fit = [(many - spare <= len(node.args) <= many or more and len(node.args) >= many) and set(named) <= set(names)
                   for many, spare, more, names in taken[name]]
            self.assertTrue(any(fit), (where, name))

    def head(self, node):
        args = node.args
        self.assertEqual((args.posonlyargs, args.kwarg), ([], None))
        # All that is passed by name only has a default here.
        self.assertNotIn(None, args.kw_defaults)
        many = len(args.args) - (1 if args.args and args.args[0].arg in ("self", "cls") else 0)
        return many, len(args.defaults), args.vararg is not None, [arg.arg for arg in args.kwonlyargs]

    def test_defaults_are_plain(self):
        for where, node in self.each(ast.FunctionDef):
            for value in [*node.args.defaults, *node.args.kw_defaults]:
                plain = isinstance(value, ast.Constant) or isinstance(value, ast.Tuple) and not value.elts
                self.assertTrue(plain or isinstance(value, ast.Name) and value.id.isupper(), where)

    def test_iterated_at_once(self):
        for name, tree in trees().items():
            allowed = set()
            for node in ast.walk(tree):
                if isinstance(node, (ast.For, ast.comprehension)):
                    allowed.add(node.iter)
                if isinstance(node, ast.Call) and isinstance(node.func, ast.Name) and node.func.id in TAKERS:
                    allowed.update(node.args[:1] if node.func.id not in ("zip",) else node.args)
            for node in ast.walk(tree):
                if isinstance(node, ast.Call):
                    called = node.func
                    if isinstance(called, ast.Name) and called.id in AT_ONCE:
                        self.assertIn(node, allowed, (name, node.lineno))
                    if isinstance(called, ast.Attribute) and called.attr in VIEWS:
                        self.assertIn(node, allowed, (name, node.lineno))
                        self.assertEqual(node.args, [])

    def test_loops_do_not_change_what_they_go_over(self):
        changing = {"append", "pop", "clear", "extend", "insert", "remove", "reverse", "setdefault", "update"}
        for where, node in self.each(ast.For):
            over = {ast.unparse(part) for part in ast.walk(node.iter) if isinstance(part, (ast.Name, ast.Attribute))}
            for part in ast.walk(ast.Module(body=node.body, type_ignores=[])):
                if isinstance(part, ast.Call) and isinstance(part.func, ast.Attribute):
                    if part.func.attr in changing:
                        self.assertNotIn(ast.unparse(part.func.value), over, where)
                if isinstance(part, ast.Subscript) and isinstance(part.ctx, (ast.Store, ast.Del)):
                    self.assertNotIn(ast.unparse(part.value), over, where)

    def test_errors_and_catching(self):
        own = {node.name for node in trees()["errors.py"].body if isinstance(node, ast.ClassDef)}
        for where, node in self.each(ast.Try):
            self.assertEqual((len(node.handlers), node.orelse, node.finalbody), (1, [], []), where)
            self.assertIn(node.handlers[0].type.id, own, where)
            self.assertIsNone(node.handlers[0].name, where)
        for where, node in self.each(ast.Raise):
            self.assertIsInstance(node.exc, ast.Call, where)
            self.assertIsInstance(node.exc.func, ast.Name, where)
            self.assertIn(node.exc.func.id, own, where)

    def test_with(self):
        for where, node in self.each(ast.With):
            self.assertEqual([ast.unparse(item) for item in node.items], ["self.attempt() as held"], where)
        leaving = [node for _, node in self.each(ast.FunctionDef) if node.name == "__exit__"]
        self.assertEqual(len(leaving), 2)
        for node in leaving:
            self.assertEqual([arg.arg for arg in node.args.args], ["self", "kind", "value", "trace"])
            rows = ast.unparse(ast.Module(body=node.body, type_ignores=[])).split("\n")
            for row in rows:
                self.assertRegex(row, r"\A(held = self\.held|if kind is not None:| *held\.[a-z]+ = self\.kept)\Z")

    def test_class_methods(self):
        """A class method only calls its class, and functions."""
        for where, node in self.each(ast.FunctionDef):
            if "classmethod" in [ast.unparse(one) for one in node.decorator_list]:
                uses = [part for part in ast.walk(node) if isinstance(part, ast.Name) and part.id == "cls"]
                calls = [part.func for part in ast.walk(node) if isinstance(part, ast.Call)]
                self.assertTrue(uses and all(use in calls for use in uses), where)

    def test_everything_has_a_docstring_where_others_use_it(self):
        for name, tree in trees().items():
            self.assertTrue(ast.get_docstring(tree), name)
            for node in tree.body:
                if isinstance(node, ast.ClassDef) or isinstance(node, ast.FunctionDef) and node.name[0] != "_":
                    self.assertTrue(ast.get_docstring(node), (name, node.name))


class Interface(unittest.TestCase):
    PLACES = {
        "words": ["result"],
        "programs": ["entries_of", "declared"],
        "bounds": ["check_bounds"],
        "tokens": ["tokens_of"],
        "reading": ["read_program"],
        "writing": ["write_program", "text_of", "write_expr"],
        "kinds": ["kind_of"],
        "externals": ["unmet", "let_answers"],
        "check": ["check"],
        "graphs": ["graph_of"],
        "live": ["live_rows", "behind"],
        "closures": ["looks_of", "closure_of", "is_open", "is_pure"],
        "treeruns": ["run_tree"],
        "runs": ["Machine", "Run"],
        "inputs": ["inputs_of", "shown_of", "pairs_of"],
        "sheets": ["Sheet", "judge_sheet"],
        "values": ["value_of", "values_of"],
        "cubes": ["read_term", "fits"],
        "forms": ["form_of"],
        "papers": ["judge_paper"],
        "solving": ["solve"],
        "sums": ["solve_sums", "judge_multipliers", "many_solutions"],
        "books": ["book_of"],
        "following": ["judge_book"],
        "leaves": ["leaves_of", "replayed"],
        "summaries": ["summary_of", "run_with"],
        "formulas": ["formula_of"],
        "loops": ["counting_loops", "turns", "left_with"],
        "goals": ["goals_of", "meets"],
        "mutating": ["mutants_of", "with_mutant"],
        "covers": ["fewest", "bar_of", "judge_bar", "greedy"],
        "suites": ["suite_of", "tests_of", "met_by"],
        "searches": ["searched"],
        "comparing": ["compare", "tells_apart", "compared"],
        "alike": ["judge_alike", "alike_paper"],
        "kills": ["matrix_of", "implied"],
        "edits": ["edited", "touched"],
        "prints": ["print_of"],
        "keepers": ["Keeper"],
        "again": ["again", "lots_of"],
        "joining": ["joined"],
        "blaming": ["shown_at", "to_blame", "to_mend"],
        "facts": ["facts_of", "holds"],
        "promises": ["needs_of", "promises_of"],
        "outside": ["made_external"],
        "maker": ["Maker"],
    }
    MEMBERS = {
        "Machine": ["run", "start"],
        "Run": ["events", "go", "answer", "outcome", "report", "trial", "ahead", "twin"],
        "Sheet": ["nodes", "place", "word", "unknown", "make", "put_in"],
        "Keeper": ["edition", "worked", "suite", "tests", "printed", "edit", "undo", "redo", "attempt", "attempted"],
        "Maker": ["of", "text", "table", "put", "drop", "rename", "undo", "redo", "suite", "tests"],
    }

    def test_each_name_is_defined_in_its_file(self):
        for module, names in self.PLACES.items():
            body = trees()[module + ".py"].body
            made = {node.name for node in body if isinstance(node, (ast.FunctionDef, ast.ClassDef))}
            self.assertLessEqual(set(names), made, module)

    def test_each_method_is_defined_in_its_class(self):
        seen = set()
        for node in [node for name in ("runs", "sheets", "keepers", "maker") for node in trees()[name + ".py"].body]:
            if isinstance(node, ast.ClassDef) and node.name in self.MEMBERS:
                made = {part.name for part in node.body if isinstance(part, ast.FunctionDef)}
                self.assertLessEqual(set(self.MEMBERS[node.name]), made)
                seen.add(node.name)
        self.assertEqual(seen, set(self.MEMBERS))


if __name__ == "__main__":
    unittest.main()
