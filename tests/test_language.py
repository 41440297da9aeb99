"""What can be seen by a program of the rules of ../shared/LANGUAGE.md, for each file of the package."""

import ast
import builtins
import functools
import pathlib
import re
import unittest

FOLDER = pathlib.Path(__file__).resolve().parent.parent / "comesthrough"
# The prompt of Python keeps what it showed last under the name _.
BUILTIN_NAMES = [name for name in dir(builtins) if name != "_"]
BUILTINS = """len range enumerate zip min max sum abs sorted reversed int str bool list tuple dict set isinstance ord repr
    any all divmod ValueError TypeError KeyError IndexError map""".split()
METHODS = """append clear copy count endswith extend find get index insert isalnum isalpha isdigit islower isspace isupper
    items join keys ljust lower lstrip partition pop remove replace reverse rfind rjust rpartition rsplit rstrip
    setdefault split splitlines startswith strip update upper values zfill bit_length add discard sort""".split()
ITERATORS = ("range", "zip", "enumerate", "reversed", "map")
VIEWS = ("items", "keys", "values")
EATERS = "list tuple dict sorted sum any all enumerate zip min max".split()
BARRED_WORDS = """typing typing_extensions enum Enum IntEnum StrEnum Flag IntFlag Generic Protocol ABC ABCMeta namedtuple
    NamedTuple TypedDict TYPE_CHECKING abstractmethod""".split()
BARRED_NAMES = """register mro elements open input law version_info with_traceback add_note attrgetter breakpoint builtins
    compile copyright credits delattr dir eval exec exit gc globals help id importlib license locals methodcaller os quit
    super type vars sys _cold _tuplegetter _outside _record _written_out _member_names""".split()
BARRED_BEGINNINGS = ("_wall", "_pe_", "_dcw_", "_enum_", "_cm_", "_twin_re_", "_lay_", "_law_", "_stub_", "_sre")
LIBRARY = {"itertools": {("product", None), ("combinations", None), ("permutations", None)}}
STATEMENTS = (
    ast.Assign, ast.AugAssign, ast.If, ast.While, ast.For, ast.Return, ast.Break, ast.Continue, ast.Pass, ast.Raise,
    ast.Assert, ast.Delete, ast.Try, ast.Expr, ast.FunctionDef, ast.ClassDef, ast.ImportFrom,
)
BARRED_NODES = (
    ast.Global, ast.AsyncFunctionDef, ast.Await, ast.AsyncFor, ast.AnnAssign, ast.Yield, ast.YieldFrom, ast.Div,
    ast.MatMult, ast.GeneratorExp, ast.Match, ast.With, ast.Nonlocal, ast.NamedExpr, ast.Import,
)


@functools.lru_cache
def sources():
    return {path.stem: path.read_text(encoding="ascii") for path in sorted(FOLDER.glob("*.py"))}


@functools.lru_cache
def trees():
    return {name: ast.parse(text) for name, text in sources().items()}


def parents_of(tree):
    return {child: node for node in ast.walk(tree) for child in ast.iter_child_nodes(node)}


def bound_names(tree):
    """All names of variables, parameters, functions, classes and imports."""
    names = []
    for node in ast.walk(tree):
        if isinstance(node, ast.Name) and isinstance(node.ctx, ast.Store):
            names.append(node.id)
        if isinstance(node, ast.arg):
            names.append(node.arg)
        if isinstance(node, (ast.FunctionDef, ast.ClassDef)):
            names.append(node.name)
        if isinstance(node, ast.alias):
            names.append(node.name)
    return names


def is_eaten(node, parents):
    """Tell whether what a call gives is iterated on the spot."""
    parent = parents[node]
    if isinstance(parent, (ast.For, ast.comprehension)):
        return parent.iter is node
    if isinstance(parent, ast.Call) and isinstance(parent.func, ast.Name):
        return parent.func.id in EATERS and node in parent.args
    return False


class TestLanguage(unittest.TestCase):
    def each(self, *kinds):
        for name, tree in trees().items():
            for node in ast.walk(tree):
                if isinstance(node, kinds):
                    yield f"{name}.py:{getattr(node, 'lineno', 0)}", node

    def test_files(self):
        for path in FOLDER.iterdir():
            self.assertTrue(path.suffix == ".py" or path.name == "__pycache__", path)
            self.assertRegex(path.stem, r"^[a-z_0-9]+$")

    def test_signs_and_sizes(self):
        for name, text in sources().items():
            self.assertRegex(text, r"^[ -~\n]*$")
            lines = text.split("\n")
            self.assertLessEqual(len(lines), 399, name)
            for at, line in enumerate(lines):
                self.assertLessEqual(len(line), 120, (name, at + 1))
        for where, node in self.each(ast.FunctionDef):
            self.assertLessEqual(node.end_lineno - node.lineno + 1, 40, where)

    def test_module_level(self):
        for name, tree in trees().items():
            above = []
            for at, node in enumerate(tree.body):
                docstring = at == 0 and isinstance(node, ast.Expr) and isinstance(node.value, ast.Constant)
                right = isinstance(node, (ast.ImportFrom, ast.FunctionDef, ast.ClassDef)) or docstring
                above.extend([node.name] if isinstance(node, ast.FunctionDef) else [])
                if isinstance(node, ast.Assign):
                    right = len(node.targets) == 1 and isinstance(node.targets[0], ast.Name)
                    parts = list(ast.walk(node.value))
                    right = right and not any(isinstance(part, ast.Call) for part in parts)
                    right = right and all(part.id in above for part in parts if isinstance(part, ast.Name))
                    right = right and not any(isinstance(part, (ast.List, ast.Dict, ast.Set)) for part in parts[1:])
                self.assertTrue(right, (name, node.lineno))
            names = [node.name for node in tree.body if isinstance(node, (ast.FunctionDef, ast.ClassDef))]
            names += [target.id for node in tree.body if isinstance(node, ast.Assign) for target in node.targets]
            names += [alias.name for node in tree.body if isinstance(node, ast.ImportFrom) for alias in node.names]
            self.assertEqual(sorted(names), sorted(set(names)), name)

    def test_imports(self):
        leads = {}
        for name, tree in trees().items():
            leads[name] = []
            used = [node.id for node in ast.walk(tree) if isinstance(node, ast.Name)]
            for node in [node for node in ast.walk(tree) if isinstance(node, ast.ImportFrom)]:
                self.assertIn(node, tree.body)
                if node.module in LIBRARY:
                    self.assertLessEqual({(alias.name, alias.asname) for alias in node.names}, LIBRARY[node.module])
                    continue
                self.assertRegex(node.module, r"^comesthrough\.[a-z]+$")
                other = node.module.split(".")[1]
                leads[name].append(other)
                for alias in node.names:
                    self.assertIsNone(alias.asname)
                    self.assertIn(alias.name, used, name)
                    self.assertIn(alias.name, self.defined(other), name)
        while leads:
            free = [name for name in leads if not [other for other in leads[name] if other in leads]]
            self.assertTrue(free, leads)
            leads = {name: leads[name] for name in leads if name not in free}

    def defined(self, name):
        names = []
        for node in trees()[name].body:
            if isinstance(node, (ast.FunctionDef, ast.ClassDef)):
                names.append(node.name)
            if isinstance(node, ast.Assign):
                names.append(node.targets[0].id)
        return names

    def test_statements(self):
        for where, node in self.each(ast.stmt):
            self.assertIsInstance(node, STATEMENTS, where)
        for where, node in self.each(*BARRED_NODES):
            self.fail(f"{where} {node}")
        for where, node in self.each(ast.FunctionDef, ast.ClassDef):
            self.assertEqual(node.decorator_list, [], where)
        for where, node in self.each(ast.arguments):
            self.assertFalse(node.kwonlyargs or node.vararg or node.kwarg or node.posonlyargs, where)
        for where, node in self.each(ast.arg):
            self.assertIsNone(node.annotation, where)
        for where, node in self.each(ast.Constant):
            self.assertNotIsInstance(node.value, (float, complex, bytes), where)

    def test_names(self):
        for name, tree in trees().items():
            classes = [node.name for node in tree.body if isinstance(node, ast.ClassDef)]
            imports = [alias.name for node in tree.body if isinstance(node, ast.ImportFrom) for alias in node.names]
            bound = bound_names(tree)
            for one in bound:
                self.assertNotIn(one, BUILTIN_NAMES, name)
                self.assertNotIn(one, BARRED_NAMES, name)
                self.assertFalse(one.startswith(BARRED_BEGINNINGS), (name, one))
                self.assertTrue(re.fullmatch(r"_|_?[A-Za-z][A-Za-z0-9_]*|__(init|eq|len)__", one), (name, one))
                if one in classes + imports:
                    self.assertEqual(bound.count(one), 1, (name, one))
        for where, node in self.each(ast.Name):
            if isinstance(node.ctx, ast.Load):
                self.assertNotEqual(node.id, "_", where)

    def test_builtins(self):
        for name, tree in trees().items():
            own = bound_names(tree)
            for node in ast.walk(tree):
                if isinstance(node, ast.Name) and node.id not in own:
                    self.assertIn(node.id, BUILTINS, (name, node.lineno))

    def test_methods(self):
        own = [node.name for _, node in self.each(ast.FunctionDef)]
        attributes = [node.attr for _, node in self.each(ast.Attribute) if isinstance(node.ctx, ast.Store)]
        for where, node in self.each(ast.Call):
            if isinstance(node.func, ast.Attribute):
                self.assertIn(node.func.attr, METHODS + own, where)
                self.assertEqual(node.keywords, [], where)
        for _, node in self.each(ast.ClassDef):
            methods = [part.name for part in node.body if isinstance(part, ast.FunctionDef)]
            self.assertEqual(sorted(methods), sorted(set(methods)))
            self.assertFalse([name for name in methods if name in attributes])
        for where, node in self.each(ast.Attribute):
            self.assertIn(node.attr, METHODS + own + attributes, where)

    def test_iterated_at_once(self):
        for name, tree in trees().items():
            parents = parents_of(tree)
            for node in ast.walk(tree):
                if not isinstance(node, ast.Call):
                    continue
                kept = isinstance(parents[node], ast.Assign) and isinstance(node.func, ast.Name)
                if isinstance(node.func, ast.Name) and node.func.id in ITERATORS:
                    self.assertTrue(is_eaten(node, parents) or kept and node.func.id == "range", (name, node.lineno))
                if isinstance(node.func, ast.Attribute) and node.func.attr in VIEWS:
                    self.assertTrue(is_eaten(node, parents), (name, node.lineno))

    def test_library(self):
        for name, tree in trees().items():
            parents = parents_of(tree)
            taken = [alias.name for node in tree.body if isinstance(node, ast.ImportFrom) and node.module in LIBRARY
                     for alias in node.names]
            self.assertFalse([one for one in taken if bound_names(tree).count(one) > 1], name)
            for node in ast.walk(tree):
                if isinstance(node, ast.Name) and node.id in taken:
                    call = parents[node]
                    self.assertTrue(isinstance(call, ast.Call) and call.func is node and call.keywords == [], name)
                    self.assertTrue(is_eaten(call, parents), (name, node.lineno))
                    self.assertTrue(all(isinstance(part, ast.Name) for part in call.args), (name, node.lineno))

    def test_sets(self):
        for name, tree in trees().items():
            parents = parents_of(tree)
            for node in ast.walk(tree):
                literal = isinstance(node, (ast.Set, ast.SetComp))
                if literal or isinstance(node, ast.Call) and isinstance(node.func, ast.Name) and node.func.id == "set":
                    parent = parents[node]
                    eaten = isinstance(parent, ast.Call) and isinstance(parent.func, ast.Name)
                    eaten = eaten and parent.func.id in ("sorted", "len") and len(parent.args) == 1
                    self.assertTrue(eaten or isinstance(parent, (ast.Assign, ast.Compare)), (name, node.lineno))

    def test_is(self):
        for where, node in self.each(ast.Compare):
            for sign, other in zip(node.ops, node.comparators):
                if isinstance(sign, (ast.Is, ast.IsNot)):
                    self.assertIsInstance(other, ast.Constant, where)
                    self.assertIn(other.value, (None, True, False), where)

    def test_errors(self):
        for where, node in self.each(ast.Raise):
            self.assertTrue(isinstance(node.exc, ast.Call) and isinstance(node.exc.func, ast.Name), where)
        for where, node in self.each(ast.ExceptHandler):
            self.assertTrue(isinstance(node.type, ast.Name) and node.type.id not in BUILTIN_NAMES, where)

    def test_strings_and_words(self):
        for where, node in self.each(ast.Constant):
            if isinstance(node.value, str):
                self.assertNotIn("%", node.value, where)
                self.assertFalse(node.value.startswith("__") and node.value.endswith("__"), where)
        for name, text in sources().items():
            for word in re.findall(r"\w+", text):
                self.assertNotIn(word, BARRED_WORDS, name)
                self.assertNotRegex(word, "dataclass|overload|contextmanager|_WallAttr", name)
                self.assertNotEqual(word, "_wall", name)
            self.assertNotIn("\\\"", text, name)
            for sign in re.findall(r"\\(.)", text):
                self.assertIn(sign, "nt\\'\"", name)

    def test_lambdas(self):
        for name, tree in trees().items():
            lines = [node.lineno for node in ast.walk(tree) if isinstance(node, ast.Lambda)]
            self.assertEqual(lines, sorted(set(lines)), name)

    def test_loops_do_not_change_what_they_go_over(self):
        changing = "append clear extend insert pop remove reverse setdefault update add discard sort".split()
        for where, loop in self.each(ast.For):
            over = loop.iter
            while isinstance(over, ast.Call) and over.args and isinstance(over.func, ast.Name):
                if over.func.id not in ("enumerate", "zip", "reversed"):
                    break
                over = over.args[0]
            told = ast.dump(over)
            for node in [node for part in loop.body for node in ast.walk(part)]:
                if isinstance(node, ast.Call) and isinstance(node.func, ast.Attribute) and node.func.attr in changing:
                    self.assertNotEqual(ast.dump(node.func.value), told, where)
                if isinstance(node, ast.Subscript) and isinstance(node.ctx, (ast.Store, ast.Del)):
                    self.assertNotEqual(ast.dump(node.value), told, where)


if __name__ == "__main__":
    unittest.main()
