"""Holds the package's files against the rules L1 to L28, as far as they can be read off the code."""

import ast
import builtins
import pathlib
import re
import unittest

PACKAGE = pathlib.Path(__file__).resolve().parent.parent / "joinwood"

ERRORS = """Exception ValueError TypeError KeyError IndexError LookupError ZeroDivisionError ArithmeticError
    OverflowError RuntimeError NotImplementedError AttributeError StopIteration""".split()
CALLED = """len range enumerate zip min max sum abs sorted reversed int str bool list tuple dict set frozenset
    isinstance ord repr any all divmod""".split()
METHODS = """append clear copy count endswith extend find get index insert isalnum isalpha isdigit islower isspace
    isupper items join keys ljust lower lstrip partition pop remove replace reverse rfind rjust rpartition rsplit
    rstrip setdefault split splitlines startswith strip update upper values zfill bit_length""".split()
WALKED = ["zip", "enumerate", "reversed", "range"]
WALKERS = ["list", "tuple", "dict", "sorted", "sum", "any", "all", "enumerate", "zip", "min", "max"]
KEYWORDS = {"sorted": ["key", "reverse"], "min": ["key", "default"], "max": ["key", "default"], "sum": ["start"],
            "enumerate": ["start"], "zip": ["strict"]}
WORDS = """type typing typing_extensions enum Enum IntEnum StrEnum Flag IntFlag Generic Protocol ABC ABCMeta
    namedtuple NamedTuple TypedDict TYPE_CHECKING abstractmethod""".split()
FREE_VALUES = "count index title find get join lower upper split strip copy add".split()
NOWHERE = "register mro elements open input version_info with_traceback add_note args format format_map".split()
TWO_UNDERSCORES = ["__init__", "__eq__", "__repr__", "__str__", "__len__"]
NODES = """Module FunctionDef ClassDef Return Assign AugAssign For While If Raise Try ImportFrom Expr Pass Break
    Continue BoolOp BinOp UnaryOp Lambda IfExp Dict Set ListComp Compare Call FormattedValue JoinedStr Constant
    Attribute Subscript Name List Tuple Slice Load Store And Or Add Sub Mult Mod Pow LShift RShift BitOr BitXor
    BitAnd FloorDiv Invert Not UAdd USub Eq NotEq Lt LtE Gt GtE Is IsNot In NotIn comprehension ExceptHandler
    arguments arg keyword alias""".split()


def parsed_files():
    texts = [(path, path.read_text(encoding="ascii")) for path in sorted(PACKAGE.rglob("*.py"))]
    return [(path, text, ast.parse(text)) for path, text in texts]


def calls_of(tree, names):
    return [node for node in ast.walk(tree) if isinstance(node, ast.Call)
            and isinstance(node.func, ast.Name) and node.func.id in names]


class Rules(unittest.TestCase):
    def test_files(self):
        self.assertTrue((PACKAGE / "__init__.py").is_file())
        for path in PACKAGE.rglob("*"):
            if "__pycache__" in path.parts:
                continue
            self.assertTrue(path.is_file() and path.suffix == ".py", path)
            self.assertRegex(path.name, r"\A[a-z0-9_]+\.py\Z")
            self.assertFalse(path.stem.startswith("test") or path.stem in WORDS + ["site", "conftest"])
            self.assertFalse(hasattr(builtins, path.stem) and not path.stem.startswith("__"), path)

    def test_signs_words_and_sizes(self):
        for path, text, tree in parsed_files():
            with self.subTest(path.name):
                self.assertRegex(text, r"\A[ -~\n]*\Z")
                self.assertLessEqual(len(text.splitlines()), 400)
                self.assertLessEqual(max(map(len, text.splitlines())), 120)
                self.assertFalse(set(re.findall(r"\w+", text)) & set(WORDS))
                self.assertNotRegex(text, "dataclass|overload|contextmanager")
                for node in ast.walk(tree):
                    if isinstance(node, ast.FunctionDef):
                        self.assertLessEqual(node.end_lineno - node.lineno + 1, 40, node.name)

    def test_only_plain_statements_and_expressions(self):
        for path, text, tree in parsed_files():
            with self.subTest(path.name):
                for node in ast.walk(tree):
                    self.assertIn(type(node).__name__, NODES, ast.dump(node))
                    for part in ["decorator_list", "finalbody", "returns", "annotation"]:
                        self.assertFalse(getattr(node, part, None), ast.dump(node))
                    if isinstance(node, (ast.For, ast.While)):
                        self.assertEqual(node.orelse, [])
                    if isinstance(node, ast.Assign):
                        self.assertEqual(len(node.targets), 1)
                    if isinstance(node, ast.comprehension):
                        self.assertLessEqual(len(node.ifs), 1)
                    if isinstance(node, ast.ListComp):
                        self.assertEqual(len(node.generators), 1)
                    if isinstance(node, ast.arguments):
                        self.assertFalse(node.vararg or node.kwarg or node.kwonlyargs or node.posonlyargs)

    def test_expressions_by_themselves_are_calls(self):
        for path, text, tree in parsed_files():
            with self.subTest(path.name):
                docstring = tree.body[0]
                self.assertIsNotNone(ast.get_docstring(tree))
                for node in ast.walk(tree):
                    if isinstance(node, ast.Expr) and node is not docstring:
                        self.assertIsInstance(node.value, ast.Call)

    def test_values(self):
        for path, text, tree in parsed_files():
            with self.subTest(path.name):
                for node in ast.walk(tree):
                    if isinstance(node, ast.Constant):
                        self.assertIn(type(node.value), [int, str, bool, type(None)])
                        self.assertNotIn("%", str(node.value))
                    if isinstance(node, ast.FormattedValue):
                        self.assertIsInstance(node.value, ast.Name)
                        self.assertIn(node.conversion, [-1, ord("r")])
                        self.assertIsNone(node.format_spec)
                    if isinstance(node, ast.BinOp) and isinstance(node.op, ast.Pow):
                        self.assertIsInstance(node.right, ast.Constant)
                        self.assertIn(node.right.value, range(65))
                    if isinstance(node, ast.Compare):
                        sides = [node.left] + node.comparators
                        if any(isinstance(op, (ast.Is, ast.IsNot)) for op in node.ops):
                            plain = [s for s in sides if isinstance(s, ast.Constant) and s.value in (None, True, False)]
                            self.assertTrue(plain)

    def test_imports(self):
        drawn = {}
        for path, text, tree in parsed_files():
            with self.subTest(path.name):
                drawn[path.stem] = []
                for node in ast.walk(tree):
                    if isinstance(node, ast.ImportFrom):
                        self.assertIn(node, tree.body)
                        self.assertEqual(node.level, 0)
                        self.assertRegex(node.module, r"\Ajoinwood\.[a-z_0-9]+\Z")
                        drawn[path.stem].append(node.module.split(".")[1])
                        there = ast.parse((PACKAGE / f"{drawn[path.stem][-1]}.py").read_text())
                        made = [d.name for d in there.body if isinstance(d, (ast.FunctionDef, ast.ClassDef))]
                        for name in node.names:
                            self.assertIn(name.name, made)
                            self.assertIsNone(name.asname)
        done = set()
        while len(done) < len(drawn):
            ready = [name for name in drawn if name not in done and set(drawn[name]) <= done]
            self.assertTrue(ready, "files draw from one another")
            done.update(ready)

    def test_tops(self):
        for path, text, tree in parsed_files():
            with self.subTest(path.name):
                bound = []
                for node in tree.body[1:]:
                    self.assertIn(type(node), [ast.ImportFrom, ast.FunctionDef, ast.ClassDef, ast.Assign])
                    if isinstance(node, ast.ImportFrom):
                        bound.extend(name.name for name in node.names)
                    elif isinstance(node, ast.Assign):
                        bound.append(node.targets[0].id)
                        for part in ast.walk(node.value):
                            self.assertIn(type(part), [ast.Constant, ast.Tuple, ast.Load])
                    else:
                        bound.append(node.name)
                self.assertEqual(len(bound), len(set(bound)))

    def test_names(self):
        for path, text, tree in parsed_files():
            with self.subTest(path.name):
                tops = {alias.name for node in tree.body if isinstance(node, ast.ImportFrom) for alias in node.names}
                tops |= {node.name for node in tree.body if isinstance(node, ast.ClassDef)}
                for node in ast.walk(tree):
                    if isinstance(node, ast.FunctionDef):
                        self.assertTrue(node.name in TWO_UNDERSCORES or not node.name.startswith("_"), node.name)
                        self.assertFalse(hasattr(builtins, node.name) and not node.name.startswith("__"))
                    local = node.arg if isinstance(node, ast.arg) else None
                    if isinstance(node, ast.Name):
                        self.assertFalse(node.id.startswith("_"), node.id)
                        local = node.id if isinstance(node.ctx, ast.Store) else None
                        if isinstance(node.ctx, ast.Load) and hasattr(builtins, node.id):
                            self.assertIn(node.id, CALLED + ERRORS)
                    if local is not None:
                        self.assertFalse(local.startswith("_") or hasattr(builtins, local) or local in tops, local)

    def test_python_s_own_are_called_plainly(self):
        for path, text, tree in parsed_files():
            with self.subTest(path.name):
                called = [node.func for node in ast.walk(tree) if isinstance(node, ast.Call)]
                handed = [word.value for node in ast.walk(tree) if isinstance(node, ast.Call) for word in node.keywords]
                tested = [node.args[1] for node in calls_of(tree, ["isinstance"])]
                tested += [part for node in tested if isinstance(node, ast.Tuple) for part in node.elts]
                for node in ast.walk(tree):
                    if isinstance(node, ast.Name) and node.id in CALLED:
                        self.assertTrue(node in called or node in handed or node in tested, node.id)
                    if isinstance(node, ast.Call) and isinstance(node.func, ast.Name) and node.func.id in CALLED:
                        for word in node.keywords:
                            self.assertIn(word.arg, KEYWORDS.get(node.func.id, []))

    def test_walked_on_the_spot(self):
        for path, text, tree in parsed_files():
            with self.subTest(path.name):
                spots = [node.iter for node in ast.walk(tree) if isinstance(node, (ast.For, ast.comprehension))]
                spots += [node.args[0] for node in calls_of(tree, WALKERS) if node.args]
                kept = calls_of(tree, WALKED)
                kept += [node for node in ast.walk(tree) if isinstance(node, ast.Call)
                         and isinstance(node.func, ast.Attribute) and node.func.attr in ["items", "keys", "values"]]
                for node in kept:
                    self.assertIn(node, spots, ast.dump(node))

    def test_sets_are_not_kept(self):
        for path, text, tree in parsed_files():
            with self.subTest(path.name):
                spots = [node.args[0] for node in calls_of(tree, ["sorted", "len"]) if not node.keywords]
                for node in ast.walk(tree):
                    if isinstance(node, ast.Compare):
                        spots += [node.left] + node.comparators
                for turn in range(3):
                    spots += [side for s in spots if isinstance(s, ast.BinOp) for side in (s.left, s.right)]
                made = calls_of(tree, ["set", "frozenset"]) + [n for n in ast.walk(tree) if isinstance(n, ast.Set)]
                for node in made:
                    self.assertIn(node, spots, ast.dump(node))

    def test_methods(self):
        own = set()
        for path, text, tree in parsed_files():
            with self.subTest(path.name):
                for node in ast.walk(tree):
                    if isinstance(node, ast.ClassDef):
                        own |= {part.name for part in node.body if isinstance(part, ast.FunctionDef)}
        for path, text, tree in parsed_files():
            with self.subTest(path.name):
                for node in ast.walk(tree):
                    if isinstance(node, ast.Call) and isinstance(node.func, ast.Attribute):
                        self.assertIn(node.func.attr, METHODS + sorted(own))

    def test_what_a_loop_walks_is_not_changed_in_it(self):
        changes = ["append", "clear", "extend", "insert", "pop", "remove", "reverse", "setdefault", "update"]
        for path, text, tree in parsed_files():
            with self.subTest(path.name):
                for loop in [node for node in ast.walk(tree) if isinstance(node, ast.For)]:
                    copied = [n for call in calls_of(loop.iter, ["list", "sorted", "tuple"]) for n in ast.walk(call)]
                    walked = [n.id for n in ast.walk(loop.iter) if isinstance(n, ast.Name) and n not in copied]
                    for node in [part for statement in loop.body for part in ast.walk(statement)]:
                        changed = None
                        if isinstance(node, ast.Subscript) and isinstance(node.ctx, ast.Store):
                            changed = node.value
                        if isinstance(node, ast.Attribute) and node.attr in changes:
                            changed = node.value
                        if isinstance(changed, ast.Name):
                            self.assertNotIn(changed.id, walked, ast.dump(loop))

    def test_classes(self):
        for path, text, tree in parsed_files():
            with self.subTest(path.name):
                for node in ast.walk(tree):
                    if isinstance(node, ast.ClassDef):
                        self.assertIn(node, tree.body)
                        self.assertLessEqual(len(node.bases), 1)
                        self.assertEqual(node.keywords, [])
                        for part in node.body:
                            self.assertIsInstance(part, (ast.FunctionDef, ast.Pass))

    def test_own_methods_and_values(self):
        taken = {name for kind in [str, int, list, tuple, dict, set, bytes] for name in dir(kind)}
        methods, values = set(), set()
        for path, text, tree in parsed_files():
            for node in ast.walk(tree):
                if isinstance(node, ast.ClassDef):
                    named = [part.name for part in node.body if isinstance(part, ast.FunctionDef)]
                    self.assertEqual(len(named), len(set(named)), path.name)
                    methods.update(named)
                if isinstance(node, ast.Attribute) and isinstance(node.ctx, ast.Store):
                    self.assertIsInstance(node.value, ast.Name, path.name)
                    values.add(node.attr)
                if isinstance(node, ast.FunctionDef) and node.name == "__init__":
                    self.assertFalse([part for part in ast.walk(node) if isinstance(part, ast.Return)], path.name)
        self.assertFalse(methods & values)
        self.assertFalse((methods & taken) - set(METHODS + TWO_UNDERSCORES + ["add", "discard"]))
        self.assertFalse((values & taken) - set(FREE_VALUES))
        self.assertFalse((methods | values) & set(NOWHERE))

    def test_errors(self):
        for path, text, tree in parsed_files():
            with self.subTest(path.name):
                for node in ast.walk(tree):
                    if isinstance(node, ast.Raise):
                        self.assertIsInstance(node.exc, ast.Call)
                    if isinstance(node, ast.ExceptHandler):
                        names = [part.id for part in ast.walk(node.type) if isinstance(part, ast.Name)]
                        self.assertTrue(names)
                        self.assertFalse({"Exception", "TypeError"} & set(names))


if __name__ == "__main__":
    unittest.main()
