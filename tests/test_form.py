"""The package's own files against those rules of LANGUAGE.md that can be seen in the code's tree or text."""

import ast
import pathlib
import re
import unittest

PACKAGE = pathlib.Path(__file__).resolve().parent.parent / "stretchdeeds"
NODES = """Module Expr Constant ImportFrom alias FunctionDef arguments arg Return ClassDef Pass Assign AugAssign If While
    For Break Continue Raise Try ExceptHandler Call Attribute Name Load Store Subscript Slice List Tuple Dict Set ListComp
    comprehension IfExp Lambda keyword JoinedStr FormattedValue Compare Eq NotEq Lt LtE Gt GtE Is IsNot In NotIn BoolOp And
    Or UnaryOp Not USub UAdd Invert BinOp Add Sub Mult FloorDiv Mod Pow BitAnd BitOr BitXor LShift RShift""".split()
OWN_NAMES = """len range enumerate zip min max sum abs sorted reversed int str bool list tuple dict set frozenset isinstance
    ord repr any all divmod Exception ValueError TypeError KeyError IndexError LookupError ZeroDivisionError
    ArithmeticError OverflowError RuntimeError NotImplementedError AttributeError StopIteration""".split()
METHODS = """append clear copy count endswith extend find get index insert isalnum isalpha isdigit islower isspace isupper
    items join keys ljust lower lstrip partition pop remove replace reverse rfind rjust rpartition rsplit rstrip
    setdefault split splitlines startswith strip update upper values zfill bit_length __init__""".split()
WORDS = """type typing typing_extensions enum Enum IntEnum StrEnum Flag IntFlag Generic Protocol ABC ABCMeta namedtuple
    NamedTuple TypedDict TYPE_CHECKING abstractmethod""".split()
UNUSED = "register mro elements open input version_info with_traceback add_note format format_map".split()
NO_NAMES = """attrgetter breakpoint builtins compile copyright credits delattr dir eval exec exit gc getattr globals hasattr
    help id importlib license locals methodcaller os quit setattr super vars sys __name__ chr print""".split()
UNDERSCORED = ["__init__", "__eq__", "__repr__", "__str__", "__len__"]


def files():
    return sorted(PACKAGE.glob("*.py"))


def trees():
    return [(path.name, ast.parse(path.read_text())) for path in files()]


def bound_names(tree):
    found = []
    for node in ast.walk(tree):
        if isinstance(node, (ast.FunctionDef, ast.ClassDef)):
            found.append(node.name)
        elif isinstance(node, ast.arg):
            found.append(node.arg)
        elif isinstance(node, ast.Name) and isinstance(node.ctx, ast.Store):
            found.append(node.id)
        elif isinstance(node, ast.alias):
            found.append(node.asname or node.name)
        elif isinstance(node, ast.ExceptHandler) and node.name:
            found.append(node.name)
    return found


class TextTest(unittest.TestCase):
    def test_only_plainly_named_files(self):
        for path in PACKAGE.iterdir():
            if path.name != "__pycache__":
                self.assertRegex(path.name, r"\A(__init__|__main__|[a-z][a-z0-9_]*)\.py\Z")

    def test_signs_and_sizes(self):
        for path in files():
            text = path.read_bytes().decode("ascii")
            rows = text.split("\n")
            self.assertLessEqual(len(rows), 401, path.name)
            for row in rows:
                self.assertRegex(row, r"\A[ -~]{0,120}\Z", path.name)

    def test_words_that_stand_nowhere(self):
        for path in files():
            text = path.read_text()
            for word in WORDS:
                self.assertIsNone(re.search(r"\b" + word + r"\b", text), (path.name, word))
            for word in ("dataclass", "overload", "contextmanager"):
                self.assertNotIn(word, text, path.name)


class TreeTest(unittest.TestCase):
    def test_kinds_of_code(self):
        for name, tree in trees():
            for node in ast.walk(tree):
                self.assertIn(node.__class__.__name__, NODES, (name, getattr(node, "lineno", 0)))

    def test_statements_by_themselves_are_calls(self):
        for name, tree in trees():
            for node in ast.walk(tree):
                if isinstance(node, ast.Expr) and node is not tree.body[0]:
                    self.assertIsInstance(node.value, ast.Call, (name, node.lineno))

    def test_constants(self):
        for name, tree in trees():
            for node in ast.walk(tree):
                if isinstance(node, ast.Constant):
                    self.assertIn(node.value.__class__, (int, str, bool, None.__class__), (name, node.lineno))
                    if isinstance(node.value, str):
                        self.assertNotIn("%", node.value, (name, node.lineno))

    def is_plain(self, value, functions, name):
        """A plain value, or a list, a tuple or a dict of these and of functions above; no list or dict within it."""
        inner = value.keys + value.values if isinstance(value, ast.Dict) else getattr(value, "elts", [])
        for part in inner:
            self.assertNotIsInstance(part, (ast.List, ast.Dict), (name, value.lineno))
            self.is_plain(part, functions, name)
        if isinstance(value, ast.Name):
            self.assertIn(value.id, functions, (name, value.lineno))
        elif not inner:
            ast.literal_eval(value)

    def test_the_top_of_a_module(self):
        kinds = (ast.ImportFrom, ast.FunctionDef, ast.ClassDef, ast.Assign)
        for name, tree in trees():
            self.assertIsNotNone(ast.get_docstring(tree), name)
            bound = []
            for node in tree.body[1:]:
                self.assertIsInstance(node, kinds, (name, node.lineno))
                if isinstance(node, ast.Assign):
                    self.assertIsInstance(node.targets[0], ast.Name)
                    bound.append(node.targets[0].id)
                    self.is_plain(node.value, bound, name)
                elif not isinstance(node, ast.ImportFrom):
                    bound.append(node.name)
            self.assertEqual(len(bound), len(set(bound)), name)

    def test_imports(self):
        drawn = {}
        for name, tree in trees():
            rows = [node for node in ast.walk(tree) if isinstance(node, ast.ImportFrom)]
            drawn["stretchdeeds." + name[:-3]] = [row.module for row in rows]
            for row in rows:
                self.assertEqual(row.level, 0, name)
                self.assertRegex(row.module, r"\Astretchdeeds\.[a-z]+\Z")
                source = ast.parse((PACKAGE / (row.module.split(".")[1] + ".py")).read_text())
                defined = [node.name for node in source.body if hasattr(node, "name")]
                defined += [node.targets[0].id for node in source.body if isinstance(node, ast.Assign)]
                self.assertLessEqual({alias.name for alias in row.names}, set(defined), name)
        self.assertEqual(drawn["stretchdeeds.__init__"], [])
        while drawn:
            free = [name for name in drawn if not set(drawn[name]) & set(drawn)]
            self.assertTrue(free, "files draw from one another")
            drawn = {name: drawn[name] for name in drawn if name not in free}

    def test_functions(self):
        for name, tree in trees():
            for node in ast.walk(tree):
                if isinstance(node, ast.FunctionDef):
                    self.assertLessEqual(node.end_lineno - node.lineno + 1, 40, (name, node.name))
                    self.assertEqual(node.decorator_list, [])
                    told = node.args
                    self.assertEqual((told.vararg, told.kwarg, told.kwonlyargs, told.posonlyargs), (None, None, [], []))

    def test_classes(self):
        for name, tree in trees():
            for node in ast.walk(tree):
                if isinstance(node, ast.ClassDef):
                    self.assertIn(node, tree.body)
                    self.assertLessEqual(len(node.bases), 1)
                    self.assertEqual((node.decorator_list, node.keywords), ([], []))
                    for row in node.body:
                        self.assertIsInstance(row, (ast.FunctionDef, ast.Pass), (name, node.name))

    def test_bound_names(self):
        python_own = dir(__builtins__) if not isinstance(__builtins__, dict) else list(__builtins__)
        for name, tree in trees():
            for bound in bound_names(tree):
                if bound not in UNDERSCORED:
                    self.assertRegex(bound, r"\A[A-Za-z][A-Za-z0-9_]*\Z", name)
                    self.assertNotIn(bound, python_own, name)

    def test_read_names(self):
        for name, tree in trees():
            known = bound_names(tree) + OWN_NAMES
            for node in ast.walk(tree):
                if isinstance(node, ast.Name):
                    self.assertIn(node.id, known, (name, node.lineno))

    def test_methods(self):
        own = [
            node.name for _, tree in trees() for top in tree.body if isinstance(top, ast.ClassDef)
            for node in top.body if isinstance(node, ast.FunctionDef)
        ]
        for name, tree in trees():
            for node in ast.walk(tree):
                if isinstance(node, ast.Call) and isinstance(node.func, ast.Attribute):
                    self.assertIn(node.func.attr, METHODS + own, (name, node.lineno))

    def test_methods_and_values_of_objects_have_names_of_their_own(self):
        methods, values = set(), set()
        for name, tree in trees():
            for node in ast.walk(tree):
                if isinstance(node, ast.ClassDef):
                    told = [row.name for row in node.body if isinstance(row, ast.FunctionDef)]
                    self.assertEqual(len(told), len(set(told)), (name, node.name))
                    methods |= set(told)
                if isinstance(node, ast.Attribute) and isinstance(node.ctx, ast.Store):
                    values.add(node.attr)
        python_own = set()
        for kind in (str, int, list, tuple, dict, set, bytes):
            python_own |= set(dir(kind))
        self.assertEqual(values & (methods | python_own), set())
        self.assertLessEqual(methods & python_own, set(METHODS + ["add", "discard"] + UNDERSCORED))

    def test_no_local_is_called_like_an_import_or_a_class(self):
        for name, tree in trees():
            told = [node.name for node in tree.body if isinstance(node, ast.ClassDef)]
            for row in tree.body:
                told += [alias.name for alias in row.names] if isinstance(row, ast.ImportFrom) else []
            for node in ast.walk(tree):
                if isinstance(node, ast.arg):
                    self.assertNotIn(node.arg, told, (name, node.lineno))
                if isinstance(node, ast.Name) and isinstance(node.ctx, ast.Store):
                    self.assertNotIn(node.id, told, (name, node.lineno))

    def test_assignments_and_powers(self):
        for name, tree in trees():
            for node in ast.walk(tree):
                if isinstance(node, ast.Assign):
                    self.assertEqual(len(node.targets), 1, (name, node.lineno))
                    self.assertIsInstance(node.targets[0], (ast.Name, ast.Attribute, ast.Subscript), (name, node.lineno))
                if isinstance(node, ast.BinOp) and isinstance(node.op, ast.Pow):
                    self.assertIn(ast.literal_eval(node.right), range(65), (name, node.lineno))
                if isinstance(node, ast.ListComp):
                    self.assertEqual(len(node.generators), 1, (name, node.lineno))
                    self.assertLessEqual(len(node.generators[0].ifs), 1, (name, node.lineno))
                if isinstance(node, ast.FormattedValue):
                    self.assertIsInstance(node.value, ast.Name, (name, node.lineno))

    def test_lists_and_dicts_of_a_top_are_only_read(self):
        for name, tree in trees():
            kept = [
                row.targets[0].id for row in tree.body
                if isinstance(row, ast.Assign) and isinstance(row.value, (ast.List, ast.Dict))
            ]
            let = []
            for node in ast.walk(tree):
                if isinstance(node, ast.Subscript) and isinstance(node.ctx, ast.Load):
                    let.append(node.value)
                if isinstance(node, ast.Compare):
                    let += node.comparators
                if isinstance(node, (ast.For, ast.comprehension)):
                    let.append(node.iter)
                if isinstance(node, ast.Call) and getattr(node.func, "id", "") in ("len", "list", "dict"):
                    let += node.args
                if isinstance(node, ast.Call) and getattr(node.func, "attr", "") in ("get", "items", "keys", "values"):
                    let.append(node.func.value)
            for node in ast.walk(tree):
                if isinstance(node, ast.Name) and node.id in kept and isinstance(node.ctx, ast.Load):
                    self.assertIn(node, let, (name, node.lineno))

    def test_what_a_loop_walks_is_not_changed_in_it(self):
        changes = "append clear extend insert pop remove reverse setdefault update".split()
        for name, tree in trees():
            for loop in [node for node in ast.walk(tree) if isinstance(node, ast.For)]:
                walked = {node.id for node in ast.walk(loop.iter) if isinstance(node, ast.Name)}
                for node in [inner for row in loop.body for inner in ast.walk(row)]:
                    if isinstance(node, ast.Call) and getattr(node.func, "attr", "") in changes:
                        self.assertNotIn(getattr(node.func.value, "id", ""), walked, (name, node.lineno))
                    if isinstance(node, ast.Subscript) and isinstance(node.ctx, ast.Store):
                        self.assertNotIn(getattr(node.value, "id", ""), walked, (name, node.lineno))

    def test_sets_are_not_kept(self):
        for name, tree in trees():
            let = []
            for node in ast.walk(tree):
                if isinstance(node, ast.Compare):
                    let += [node.left] + node.comparators
                if isinstance(node, ast.Call) and getattr(node.func, "id", "") in ("sorted", "len") and not node.keywords:
                    let += node.args
            for node in ast.walk(tree):
                self.assertNotIsInstance(node, ast.Set, name)
                if isinstance(node, ast.Call) and getattr(node.func, "id", "") in ("set", "frozenset"):
                    self.assertIn(node, let, (name, node.lineno))

    def test_names_that_are_not_used(self):
        for name, tree in trees():
            for node in ast.walk(tree):
                told = getattr(node, "attr", getattr(node, "id", getattr(node, "arg", getattr(node, "name", ""))))
                self.assertNotIn(told, UNUSED, (name, getattr(node, "lineno", 0)))
                if not isinstance(node, ast.Attribute):
                    self.assertNotIn(told, NO_NAMES, (name, getattr(node, "lineno", 0)))

    def test_errors_that_are_taken(self):
        own = {node.name for node in ast.parse((PACKAGE / "errors.py").read_text()).body if hasattr(node, "name")}
        for name, tree in trees():
            for node in ast.walk(tree):
                if isinstance(node, ast.ExceptHandler):
                    told = [part.id for part in ast.walk(node.type) if isinstance(part, ast.Name)]
                    self.assertLessEqual(set(told), own | {"KeyError", "ZeroDivisionError", "StopIteration"}, name)
                if isinstance(node, ast.Raise):
                    self.assertIsInstance(node.exc, ast.Call, (name, node.lineno))

    def test_walked_at_once(self):
        walked = ["zip", "enumerate", "reversed", "range", "items", "keys", "values"]
        takers = ["list", "tuple", "dict", "sorted", "sum", "any", "all", "enumerate", "zip", "min", "max"]
        for name, tree in trees():
            at_once = []
            for node in ast.walk(tree):
                if isinstance(node, (ast.For, ast.comprehension)):
                    at_once.append(node.iter)
                if isinstance(node, ast.Call) and isinstance(node.func, ast.Name) and node.func.id in takers:
                    at_once += node.args[:1]
            for node in ast.walk(tree):
                if isinstance(node, ast.Call) and getattr(node.func, "id", getattr(node.func, "attr", "")) in walked:
                    self.assertIn(node, at_once, (name, node.lineno))

    def test_keywords(self):
        allowed = {
            "sorted": ["key", "reverse"], "min": ["key", "default"], "max": ["key", "default"], "sum": ["start"],
            "enumerate": ["start"], "zip": ["strict"],
        }
        for name, tree in trees():
            for node in ast.walk(tree):
                if isinstance(node, ast.Call) and node.keywords:
                    self.assertIsInstance(node.func, ast.Name, (name, node.lineno))
                    if node.func.id in OWN_NAMES:
                        told = [keyword.arg for keyword in node.keywords]
                        self.assertLessEqual(set(told), set(allowed.get(node.func.id, [])), (name, node.lineno))

    def test_is_stands_beside_written_values(self):
        for name, tree in trees():
            for node in ast.walk(tree):
                if isinstance(node, ast.Compare) and any(isinstance(op, (ast.Is, ast.IsNot)) for op in node.ops):
                    self.assertIsInstance(node.comparators[-1], ast.Constant, (name, node.lineno))


if __name__ == "__main__":
    unittest.main()
