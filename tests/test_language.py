"""The package keeps to the part of Python that ../shared/LANGUAGE.md tells.

What a reader of the syntax can see of the rules is looked at here, and more
narrowly than the rules ask where that is simpler.
"""

import ast
import builtins
import pathlib
import re
import unittest

PACKAGE = pathlib.Path(__file__).resolve().parent.parent / "hangrings"

NODES = set(
    """Module FunctionDef arguments arg ClassDef ImportFrom alias Assign AugAssign If While For Return Break
    Continue Pass Raise Try ExceptHandler Expr Call Constant List Tuple Dict Name Attribute Subscript Slice
    BinOp UnaryOp BoolOp Compare IfExp ListComp comprehension JoinedStr FormattedValue Lambda Load Store
    Add Sub Mult FloorDiv Mod Pow LShift RShift BitAnd BitOr BitXor Invert USub Not And Or
    Eq NotEq Lt LtE Gt GtE Is IsNot In NotIn keyword""".split()
)
OWN_NAMES = set(
    """len range enumerate zip min max sum abs sorted reversed int str bool list tuple dict set frozenset
    isinstance ord repr any all divmod Exception ValueError TypeError KeyError IndexError LookupError
    ZeroDivisionError ArithmeticError OverflowError RuntimeError NotImplementedError StopIteration""".split()
)
METHODS = set(
    """append clear copy count endswith extend find get index insert isalnum isalpha isdigit islower isspace
    isupper items join keys ljust lower lstrip partition pop remove replace reverse rfind rjust rpartition
    rsplit rstrip setdefault split splitlines startswith strip update upper values zfill bit_length""".split()
)
WORDS = re.compile(
    r"\b(type|typing|typing_extensions|enum|Enum|IntEnum|StrEnum|Flag|IntFlag|Generic|Protocol|ABC|ABCMeta|"
    r"namedtuple|NamedTuple|TypedDict|TYPE_CHECKING|abstractmethod)\b|dataclass|overload|contextmanager"
)
UNUSED = set(
    """register mro elements open input version_info with_traceback add_note attrgetter breakpoint builtins
    compile copyright credits delattr dir eval exec exit gc getattr globals hasattr help id importlib license
    locals methodcaller os quit setattr super sys type vars format format_map""".split()
)
SPECIAL = ["__init__", "__eq__", "__repr__", "__str__", "__len__"]


def sources():
    return {path.stem: path.read_text(encoding="utf-8") for path in sorted(PACKAGE.glob("*.py"))}


def trees():
    return {name: ast.parse(text) for name, text in sources().items()}


def bound_in(function):
    """Every parameter and local of a def, with those of the defs and lambdas within it."""
    names = [node.arg for node in ast.walk(function) if isinstance(node, ast.arg)]
    names += [node.id for node in ast.walk(function) if isinstance(node, ast.Name) and isinstance(node.ctx, ast.Store)]
    return names


def top_names(tree):
    found = []
    for row in tree.body:
        if isinstance(row, (ast.FunctionDef, ast.ClassDef)):
            found.append(row.name)
        elif isinstance(row, ast.ImportFrom):
            found += [alias.name for alias in row.names]
        elif isinstance(row, ast.Assign):
            found += [target.id for target in row.targets]
    return found


def lasting_names(tree):
    """What another file may draw: defs, classes, and values that can't be changed."""
    found = []
    for row in tree.body:
        if isinstance(row, (ast.FunctionDef, ast.ClassDef)):
            found.append(row.name)
        elif isinstance(row, ast.Assign) and not isinstance(row.value, (ast.List, ast.Dict)):
            found.append(row.targets[0].id)
    return found


class LanguageTest(unittest.TestCase):
    def each_node(self):
        for name, tree in trees().items():
            for node in ast.walk(tree):
                yield f"{name}:{getattr(node, 'lineno', 0)}", node

    def test_files(self):
        for path in PACKAGE.iterdir():
            if path.name != "__pycache__":
                self.assertRegex(path.name, r"^[a-z][a-z0-9_]*\.py$|^__init__\.py$|^__main__\.py$")
                self.assertNotIn(path.stem, dir(builtins))
        self.assertIn("__init__", sources())

    def test_signs_and_sizes(self):
        for name, text in sources().items():
            self.assertRegex(text, r"\A[\n -~]*\Z", name)
            self.assertIsNone(WORDS.search(text), name)
            rows = text.splitlines()
            self.assertLessEqual(len(rows), 400, name)
            self.assertLessEqual(max([len(row) for row in rows], default=0), 120, name)

    def test_only_told_forms(self):
        for where, node in self.each_node():
            self.assertIn(node.__class__.__name__, NODES, where)

    def test_imports(self):
        drawn = {}
        for name, tree in trees().items():
            drawn[name] = []
            for node in ast.walk(tree):
                if isinstance(node, ast.ImportFrom):
                    self.assertIn(node, tree.body, name)
                    self.assertEqual(node.level, 0, name)
                    self.assertRegex(node.module, r"^hangrings\.[a-z_]+$")
                    source = node.module.split(".")[1]
                    drawn[name].append(source)
                    defined = lasting_names(trees()[source])
                    for alias in node.names:
                        self.assertIsNone(alias.asname, name)
                        self.assertIn(alias.name, defined, name)
        while drawn:
            free = [name for name in drawn if not set(drawn[name]) & set(drawn)]
            self.assertTrue(free, "files draw from one another in a circle")
            drawn = {name: drawn[name] for name in drawn if name not in free}

    def test_init_binds_nothing(self):
        self.assertEqual(top_names(trees()["__init__"]), [])

    def check_plain_value(self, value, rows_above, where):
        """No list or dict within another, and no names but of functions defined above."""
        functions = [row.name for row in rows_above if isinstance(row, ast.FunctionDef)]
        within = value.values if isinstance(value, ast.Dict) else []
        for entry in within:
            if isinstance(entry, ast.Name):
                self.assertIn(entry.id, functions, where)
            else:
                self.assertNotIsInstance(ast.literal_eval(entry), (list, dict), where)
        if isinstance(value, ast.Dict):
            self.assertEqual([key for key in value.keys if not isinstance(ast.literal_eval(key), (str, tuple))], [])
        else:
            ast.literal_eval(value)

    def test_tops(self):
        for name, tree in trees().items():
            for place, row in enumerate(tree.body):
                if isinstance(row, ast.Expr):
                    self.assertEqual(place, 0, name)
                    self.assertIsInstance(row.value, ast.Constant)
                else:
                    self.assertIsInstance(row, (ast.ImportFrom, ast.FunctionDef, ast.ClassDef, ast.Assign), name)
                if isinstance(row, ast.Assign):
                    self.check_plain_value(row.value, tree.body[:place], name)
            names = top_names(tree)
            self.assertEqual(len(names), len(set(names)), name)

    def test_defs(self):
        for where, node in self.each_node():
            if isinstance(node, ast.FunctionDef):
                self.assertLessEqual(node.end_lineno - node.lineno + 1, 40, where)
                self.assertEqual(node.decorator_list, [], where)
                self.assertIsNone(node.args.vararg, where)
                self.assertIsNone(node.args.kwarg, where)
                self.assertEqual(node.args.kwonlyargs + node.args.posonlyargs, [], where)
                self.assertIsNone(node.returns, where)
            if isinstance(node, ast.arg):
                self.assertIsNone(node.annotation, where)

    def test_classes(self):
        for where, node in self.each_node():
            if isinstance(node, ast.ClassDef):
                self.assertLessEqual(len(node.bases), 1, where)
                self.assertEqual(node.keywords + node.decorator_list, [], where)
                for row in node.body:
                    self.assertIsInstance(row, (ast.FunctionDef, ast.Pass), where)

    def test_no_name_is_a_method_here_and_a_value_there(self):
        classes = [node for where, node in self.each_node() if isinstance(node, ast.ClassDef)]
        methods = [row.name for node in classes for row in node.body if isinstance(row, ast.FunctionDef)]
        values = {node.attr for where, node in self.each_node()
                  if isinstance(node, ast.Attribute) and isinstance(node.ctx, ast.Store)}
        self.assertEqual(sorted(values & (set(methods) | METHODS)), [])
        for node in classes:
            names = [row.name for row in node.body if isinstance(row, ast.FunctionDef)]
            self.assertEqual(len(names), len(set(names)), node.name)

    def test_statements(self):
        for where, node in self.each_node():
            if isinstance(node, ast.Assign):
                self.assertEqual(len(node.targets), 1, where)
                self.assertNotIsInstance(node.targets[0], (ast.Tuple, ast.List), where)
            if isinstance(node, (ast.For, ast.While)):
                self.assertEqual(node.orelse, [], where)
            if isinstance(node, ast.Expr):
                self.assertIsInstance(node.value, (ast.Call, ast.Constant), where)
            if isinstance(node, ast.Try):
                self.assertEqual(node.finalbody, [], where)
            if isinstance(node, ast.Raise):
                self.assertIsInstance(node.exc, ast.Call, where)

    def test_expressions(self):
        for where, node in self.each_node():
            if isinstance(node, ast.Constant):
                self.assertIsInstance(node.value, (int, str, bool, None.__class__), where)
            if isinstance(node, ast.Constant) and isinstance(node.value, str):
                self.assertNotIn("%", node.value, where)
            if isinstance(node, ast.ListComp):
                self.assertEqual(len(node.generators), 1, where)
                self.assertLessEqual(len(node.generators[0].ifs), 1, where)
            if isinstance(node, ast.FormattedValue):
                self.assertIsInstance(node.value, ast.Name, where)
            if isinstance(node, ast.BinOp) and isinstance(node.op, ast.Pow):
                self.assertIsInstance(node.right, ast.Constant, where)
            if isinstance(node, ast.Compare):
                for operator, side in zip(node.ops, node.comparators):
                    if isinstance(operator, (ast.Is, ast.IsNot)):
                        self.assertIsInstance(side, ast.Constant, where)

    def test_names(self):
        own = {name for name, value in vars(builtins).items()}
        for where, node in self.each_node():
            names = []
            if isinstance(node, ast.Name):
                names = [node.id]
                if node.id in own:
                    self.assertIn(node.id, OWN_NAMES, where)
            elif isinstance(node, ast.Attribute):
                names = [node.attr]
            elif isinstance(node, ast.arg):
                names = [node.arg]
            elif isinstance(node, (ast.FunctionDef, ast.ClassDef)):
                names = [node.name]
            for name in names:
                self.assertNotIn(name, UNUSED, where)
                if name not in SPECIAL:
                    self.assertRegex(name, r"^[A-Za-z][A-Za-z0-9_]*$", where)

    def test_no_local_is_called_like_another_thing(self):
        for name, tree in trees().items():
            taken = set(top_names(tree)) | set(dir(builtins))
            for node in ast.walk(tree):
                if isinstance(node, ast.FunctionDef):
                    self.assertEqual(sorted(set(bound_in(node)) & taken), [], f"{name}:{node.lineno}")

    def test_methods(self):
        defined = {node.name for where, node in self.each_node() if isinstance(node, ast.FunctionDef)}
        for where, node in self.each_node():
            if isinstance(node, ast.Call) and isinstance(node.func, ast.Attribute):
                self.assertIn(node.func.attr, METHODS | defined, where)
            if isinstance(node, ast.Call) and isinstance(node.func, ast.Name) and node.func.id == "isinstance":
                self.assertEqual(len(node.args), 2, where)


if __name__ == "__main__":
    unittest.main()
