"""The package keeps to the small part of Python that it is to be written in, as far as its form shows it."""

import ast
import builtins
import pathlib
import unittest

FOLDER = pathlib.Path(__file__).resolve().parent.parent / "hushwise"
FILES = sorted(FOLDER.glob("*.py"))

STATEMENTS = (ast.FunctionDef, ast.ClassDef, ast.ImportFrom, ast.Assign, ast.AugAssign, ast.If, ast.While, ast.For,
              ast.Return, ast.Break, ast.Continue, ast.Pass, ast.Raise, ast.Try, ast.Expr)
EXPRESSIONS = (ast.Constant, ast.List, ast.Tuple, ast.Dict, ast.Set, ast.BinOp, ast.UnaryOp, ast.BoolOp, ast.Compare,
               ast.IfExp, ast.Call, ast.Attribute, ast.Subscript, ast.Slice, ast.ListComp, ast.JoinedStr,
               ast.FormattedValue, ast.Name, ast.Lambda)
OWN_NAMES = set("""len range enumerate zip min max sum abs sorted reversed int str bool list tuple dict set frozenset
    isinstance ord repr any all divmod Exception ValueError TypeError KeyError IndexError LookupError ZeroDivisionError
    ArithmeticError OverflowError RuntimeError NotImplementedError AttributeError StopIteration""".split())
METHODS = set("""append clear copy count endswith extend find get index insert isalnum isalpha isdigit islower isspace
    isupper items join keys ljust lower lstrip partition pop remove replace reverse rfind rjust rpartition rsplit rstrip
    setdefault split splitlines startswith strip update upper values zfill bit_length""".split())
VALUES = {"count", "index", "title", "find", "get", "join", "lower", "upper", "split", "strip", "copy", "add"}
FREE_METHODS = METHODS | {"add", "discard"}
UNUSED = set("register mro elements open input version_info with_traceback add_note format format_map".split())
UNUSED_NAMES = set("""attrgetter breakpoint builtins compile copyright credits delattr dir eval exec exit gc getattr
    globals hasattr help id importlib license locals methodcaller os quit setattr super type vars sys chr print""".split())
WORDS = """type typing typing_extensions enum Enum IntEnum StrEnum Flag IntFlag Generic Protocol ABC ABCMeta namedtuple
    NamedTuple TypedDict TYPE_CHECKING abstractmethod""".split()
TWO_UNDERSCORES = {"__init__", "__eq__", "__repr__", "__str__", "__len__"}
WALKED = {"zip", "enumerate", "reversed", "range", "items", "keys", "values"}
WALKERS = {"list", "tuple", "dict", "sorted", "sum", "any", "all", "enumerate", "zip", "min", "max", "join"}
TAKEN = {name for kind in (str, int, list, dict, set, bytes) for name in dir(kind)}


def called(node):
    """The name of the function or method that a call calls, None for anything else."""
    if not isinstance(node, ast.Call):
        return None
    return node.func.attr if isinstance(node.func, ast.Attribute) else getattr(node.func, "id", None)


def is_text(node):
    return isinstance(node, ast.Expr) and isinstance(node.value, ast.Constant) and isinstance(node.value.value, str)


def bound_by(path):
    """The names that a file's top gives a meaning to, leaving out what it imports."""
    names = []
    for node in ast.parse(path.read_text(encoding="utf-8")).body:
        if isinstance(node, ast.Assign):
            names.append(node.targets[0].id)
        if isinstance(node, (ast.FunctionDef, ast.ClassDef)):
            names.append(node.name)
    return names


class Language(unittest.TestCase):
    def each_file(self):
        for path in FILES:
            source = path.read_text(encoding="utf-8")
            tree = ast.parse(source)
            for node in ast.walk(tree):
                for child in ast.iter_child_nodes(node):
                    child.above = node
            with self.subTest(path.name):
                yield path, source, tree

    def each_node(self, *kinds):
        for path, source, tree in self.each_file():
            for node in ast.walk(tree):
                if isinstance(node, kinds):
                    yield path, node

    def test_files(self):
        self.assertGreaterEqual(len(FILES), 14)
        for path in FOLDER.iterdir():
            if path.name != "__pycache__":
                self.assertRegex(path.name, r"\A[a-z_0-9]+\.py\Z")
                self.assertFalse(path.stem in dir(builtins) or path.stem.startswith("test"))

    def test_signs_and_sizes(self):
        for path, source, tree in self.each_file():
            self.assertRegex(source, r"\A[ -~\n]*\Z")
            self.assertLessEqual(len(source.splitlines()), 400)
            self.assertLessEqual(max(len(line) for line in source.splitlines()), 120)
            for word in WORDS:
                self.assertNotRegex(source, rf"\b{word}\b")
            self.assertNotRegex(source, "dataclass|overload|contextmanager")
            self.assertNotRegex(source, r"\\[^nt\\'\"]")

    def test_imports(self):
        drawn = {}
        for path, node in self.each_node(ast.ImportFrom, ast.Import):
            self.assertIsInstance(node, ast.ImportFrom)
            self.assertEqual(node.level, 0)
            self.assertRegex(node.module, r"\Ahushwise\.[a-z]+\Z")
            drawn.setdefault(path.stem, set()).add(node.module.partition(".")[2])
            for alias in node.names:
                self.assertIn(alias.name, bound_by(FOLDER / (node.module.partition(".")[2] + ".py")))
        self.assertNotIn("__init__", drawn)
        for turn in drawn:
            drawn = {name: some | {far for one in some for far in drawn.get(one, ())} for name, some in drawn.items()}
        for name, some in drawn.items():
            self.assertNotIn(name, some)

    def test_top_of_a_file(self):
        for path, source, tree in self.each_file():
            for node in tree.body:
                if isinstance(node, ast.Assign):
                    ast.literal_eval(node.value)
                elif not isinstance(node, (ast.FunctionDef, ast.ClassDef)):
                    self.assertTrue(isinstance(node, ast.ImportFrom) or is_text(node), ast.dump(node))
            bound = bound_by(path)
            self.assertEqual(len(bound), len(set(bound)))

    def test_statements(self):
        for path, node in self.each_node(ast.stmt):
            self.assertIsInstance(node, STATEMENTS)
            if isinstance(node, ast.Assign):
                self.assertEqual(len(node.targets), 1)
                self.assertNotIsInstance(node.targets[0], (ast.Tuple, ast.List))
            if isinstance(node, (ast.For, ast.While)):
                self.assertEqual(node.orelse, [])
            if isinstance(node, ast.Expr):
                self.assertTrue(is_text(node) or isinstance(node.value, ast.Call))
            if isinstance(node, ast.Try):
                self.assertEqual(node.finalbody, [])
            if isinstance(node, ast.Raise):
                self.assertIsInstance(node.exc, ast.Call)

    def test_expressions(self):
        for path, node in self.each_node(ast.expr):
            self.assertIsInstance(node, EXPRESSIONS)
            if isinstance(node, ast.Constant):
                self.assertTrue(node.value is None or isinstance(node.value, (int, str)))
                self.assertNotIn("%", str(node.value))
            if isinstance(node, ast.ListComp):
                self.assertEqual(len(node.generators), 1)
                self.assertLessEqual(len(node.generators[0].ifs), 1)
            if isinstance(node, ast.BinOp):
                self.assertNotIsInstance(node.op, (ast.Div, ast.MatMult, ast.Pow))
            if isinstance(node, ast.FormattedValue):
                self.assertIsInstance(node.value, ast.Name)
                self.assertIsNone(node.format_spec)
            if isinstance(node, ast.Compare):
                for operator, right in zip(node.ops, node.comparators):
                    if isinstance(operator, (ast.Is, ast.IsNot)):
                        self.assertIn(ast.unparse(right), ("None", "True", "False"))

    def test_functions(self):
        for path, node in self.each_node(ast.FunctionDef):
            self.assertLessEqual(node.end_lineno - node.lineno + 1, 40)
            self.assertEqual(node.decorator_list, [])
            self.assertIsNone(node.returns)
            self.assertFalse(node.args.vararg or node.args.kwarg or node.args.kwonlyargs or node.args.posonlyargs)
            self.assertTrue(all(one.annotation is None for one in node.args.args))

    def test_classes(self):
        methods = set()
        values = set()
        for path, node in self.each_node(ast.ClassDef, ast.Attribute):
            if isinstance(node, ast.ClassDef):
                self.assertLessEqual(len(node.bases), 1)
                self.assertFalse(node.keywords or node.decorator_list)
                inner = [one for one in node.body if not is_text(one)]
                self.assertTrue(all(isinstance(one, ast.FunctionDef) for one in inner))
                names = [one.name for one in inner]
                self.assertEqual(len(names), len(set(names)))
                methods.update(names)
            elif isinstance(node.ctx, ast.Store):
                values.add(node.attr)
        self.assertEqual(methods & values, set())
        self.assertEqual({one for one in methods - TWO_UNDERSCORES if one in TAKEN} - FREE_METHODS, set())
        self.assertEqual({one for one in values if one in TAKEN or one == "args"} - VALUES, set())

    def test_names(self):
        for path, source, tree in self.each_file():
            top = [node for node in tree.body if isinstance(node, (ast.ImportFrom, ast.ClassDef))]
            far = {alias.name for node in top if isinstance(node, ast.ImportFrom) for alias in node.names}
            far |= {node.name for node in top if isinstance(node, ast.ClassDef)}
            for node in ast.walk(tree):
                name = getattr(node, "id", getattr(node, "arg", getattr(node, "attr", getattr(node, "name", None))))
                if isinstance(node, (ast.alias, ast.keyword)) or name is None:
                    continue
                self.assertRegex(name, r"\A([A-Za-z][A-Za-z0-9_]*|__(init|eq|repr|str|len)__)\Z")
                self.assertNotIn(name, UNUSED)
                bound = isinstance(node, ast.arg) or isinstance(getattr(node, "ctx", None), ast.Store)
                if isinstance(node, (ast.Name, ast.arg)):
                    self.assertNotIn(name, UNUSED_NAMES)
                    self.assertFalse(bound and (name in far or hasattr(builtins, name)), name)
                    self.assertTrue(not hasattr(builtins, name) or name in OWN_NAMES, name)

    def test_methods_that_are_called(self):
        own = {one.name for path, node in self.each_node(ast.ClassDef) for one in node.body if not is_text(one)}
        for path, node in self.each_node(ast.Call):
            if isinstance(node.func, ast.Attribute):
                self.assertIn(node.func.attr, METHODS | own)
                self.assertEqual(node.keywords, [])

    def test_sets_and_walks(self):
        for path, node in self.each_node(ast.Call):
            above = node.above
            if called(node) == "set":
                self.assertIn(called(above), ("sorted", "len"))
                self.assertEqual(above.keywords, [])
            if called(node) in WALKED:
                walked = isinstance(above, (ast.For, ast.comprehension)) and above.iter is node
                self.assertTrue(walked or called(above) in WALKERS)

    def test_lists_of_a_files_top_hold_tuples_alone(self):
        for path, source, tree in self.each_file():
            for node in tree.body:
                if isinstance(node, ast.Assign):
                    inner = [one for one in ast.walk(node.value) if isinstance(one, (ast.List, ast.Dict))]
                    self.assertTrue(all(one is node.value for one in inner))


if __name__ == "__main__":
    unittest.main()
