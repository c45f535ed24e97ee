"""The package's files held against the rules of ../shared/LANGUAGE.md that a walk over the code can see."""

import ast
import builtins
import pathlib
import re
import unittest

PACKAGE = pathlib.Path(__file__).resolve().parent.parent / "mergeline"
MAIN = "__main__.py"

STATEMENTS = (
    ast.FunctionDef, ast.ClassDef, ast.Assign, ast.AugAssign, ast.If, ast.While, ast.For, ast.Return, ast.Break,
    ast.Continue, ast.Pass, ast.Raise, ast.Try, ast.Expr, ast.ImportFrom,
)
EXPRESSIONS = (
    ast.Constant, ast.Name, ast.List, ast.Tuple, ast.Dict, ast.Set, ast.BinOp, ast.UnaryOp, ast.BoolOp, ast.Compare,
    ast.IfExp, ast.Call, ast.Attribute, ast.Subscript, ast.Slice, ast.ListComp, ast.JoinedStr, ast.FormattedValue,
    ast.Lambda,
)
BUILT_IN = """
    len range enumerate zip min max sum abs sorted reversed int str bool list tuple dict set frozenset isinstance ord
    repr any all divmod Exception ValueError TypeError KeyError IndexError LookupError ZeroDivisionError
    ArithmeticError OverflowError RuntimeError NotImplementedError AttributeError StopIteration
""".split()
METHODS = """
    append clear copy count endswith extend find get index insert isalnum isalpha isdigit islower isspace isupper items
    join keys ljust lower lstrip partition pop remove replace reverse rfind rjust rpartition rsplit rstrip setdefault
    split splitlines startswith strip update upper values zfill bit_length
""".split()
TWO_UNDERSCORES = ("__init__", "__eq__", "__repr__", "__str__", "__len__")
WALKED = ("zip", "enumerate", "reversed", "range", "items", "keys", "values")
WALKERS = ("list", "tuple", "dict", "sorted", "sum", "any", "all", "enumerate", "zip", "min", "max", "join")
CHANGES = ("append", "clear", "extend", "insert", "pop", "remove", "reverse", "setdefault", "update")
KEYWORDS = {"sorted": ("key", "reverse"), "min": ("key", "default"), "max": ("key", "default"), "sum": ("start",),
            "enumerate": ("start",), "zip": ("strict",)}
UNUSED_NAMES = ("register", "mro", "elements", "open", "input", "format", "format_map", "args", "encode", "sort")
UNUSED_WORDS = """
    type typing typing_extensions enum Enum IntEnum StrEnum Flag IntFlag Generic Protocol ABC ABCMeta namedtuple
    NamedTuple TypedDict TYPE_CHECKING abstractmethod
""".split()


def own_files():
    return sorted(path for path in PACKAGE.rglob("*") if path.is_file() and "__pycache__" not in path.parts)


def bound_names(tree):
    """Every name that the code binds."""
    names = []
    for node in ast.walk(tree):
        if isinstance(node, (ast.FunctionDef, ast.ClassDef)):
            names.append(node.name)
        elif isinstance(node, ast.arg):
            names.append(node.arg)
        elif isinstance(node, ast.Name) and isinstance(node.ctx, ast.Store):
            names.append(node.id)
        elif isinstance(node, ast.Attribute) and isinstance(node.ctx, ast.Store):
            names.append(node.attr)
        elif isinstance(node, ast.ImportFrom):
            names.extend(alias.asname or alias.name for alias in node.names)
        elif isinstance(node, ast.ExceptHandler) and node.name:
            names.append(node.name)
    return names


def called(node):
    """The name of the function or method that is called, the empty text for no call."""
    if not isinstance(node, ast.Call):
        return ""
    return node.func.id if isinstance(node.func, ast.Name) else node.func.attr


def imported(tree):
    return [alias.asname or alias.name for node in tree.body if isinstance(node, ast.ImportFrom) for alias in node.names]


def changed_in(loop):
    """The written forms of all that is changed in a loop."""
    found = []
    for node in [inner for one in loop.body for inner in ast.walk(one)]:
        if isinstance(node, (ast.Subscript, ast.Name, ast.Attribute)) and isinstance(node.ctx, ast.Store):
            found.append(ast.unparse(node.value if isinstance(node, ast.Subscript) else node))
        if called(node) in CHANGES and isinstance(node.func, ast.Attribute):
            found.append(ast.unparse(node.func.value))
    return found


def walked_by(loop):
    """The written forms of all that a loop walks, also through `enumerate`, `items` and their like."""
    left, found = [loop.iter], []
    while left:
        node = left.pop()
        if called(node) in WALKED:
            left.extend(node.args + ([node.func.value] if isinstance(node.func, ast.Attribute) else []))
        else:
            found.append(ast.unparse(node))
    return found


class Language(unittest.TestCase):
    def setUp(self):
        self.texts = {path: path.read_text(encoding="utf-8") for path in own_files()}
        self.trees = {path: ast.parse(text) for path, text in self.texts.items()}

    def walked(self):
        for path, tree in self.trees.items():
            for node in ast.walk(tree):
                yield f"{path.name}:{getattr(node, 'lineno', 0)}", path, node

    def test_files(self):
        self.assertTrue(self.texts)
        for path in self.texts:
            self.assertRegex(path.name, r"^([a-z][a-z0-9_]*|__init__|__main__)\.py$")
            self.assertTrue((path.parent / "__init__.py").is_file())

    def test_signs_and_sizes(self):
        for path, text in self.texts.items():
            rows = text.split("\n")
            self.assertLessEqual(len(rows), 401, path.name)
            self.assertLessEqual(max(len(row) for row in rows), 120, path.name)
            self.assertRegex(text, r"\A[ -~\n]*\Z", path.name)
        for at, path, node in self.walked():
            if isinstance(node, ast.FunctionDef):
                self.assertLessEqual(node.end_lineno - node.lineno + 1, 40, at)

    def test_words_that_stand_nowhere(self):
        for path, text in self.texts.items():
            found = set(re.findall(r"\w+", text))
            self.assertEqual(found & set(UNUSED_WORDS), set(), path.name)
            self.assertNotRegex(text, "dataclass|overload|contextmanager", path.name)

    def test_imports(self):
        for at, path, node in self.walked():
            if isinstance(node, ast.ImportFrom):
                self.assertEqual(node.level, 0, at)
                self.assertRegex(node.module, r"^mergeline\.[a-z]", at)
                source = PACKAGE.joinpath(*node.module.split(".")[1:]).with_suffix(".py")
                defined = [one.name for one in self.trees[source].body if hasattr(one, "name")]
                defined += [name.id for one in self.trees[source].body if isinstance(one, ast.Assign)
                            for name in one.targets]
                for alias in node.names:
                    self.assertIn(alias.name, defined, at)

    def test_no_two_files_draw_from_one_another(self):
        draws = {}
        for path, tree in self.trees.items():
            draws[path.stem] = {node.module.split(".")[-1] for node in tree.body if isinstance(node, ast.ImportFrom)}
        while draws:
            free = [stem for stem, others in draws.items() if not others & set(draws)]
            self.assertTrue(free, sorted(draws))
            for stem in free:
                draws.pop(stem)

    def test_statements_and_expressions(self):
        for at, path, node in self.walked():
            if isinstance(node, ast.stmt) and not (path.name == MAIN and isinstance(node, ast.Import)):
                self.assertIsInstance(node, STATEMENTS, at)
            if isinstance(node, ast.expr):
                self.assertIsInstance(node, EXPRESSIONS, at)
            if isinstance(node, ast.Assign):
                self.assertEqual(len(node.targets), 1, at)
            if isinstance(node, (ast.For, ast.While)):
                self.assertEqual(node.orelse, [], at)
            if isinstance(node, ast.Try):
                self.assertEqual(node.finalbody, [], at)
            if isinstance(node, ast.ListComp):
                self.assertEqual(len(node.generators), 1, at)
                self.assertLessEqual(len(node.generators[0].ifs), 1, at)
            if isinstance(node, ast.Constant):
                self.assertIsInstance(node.value, (int, str, type(None)), at)
                self.assertNotIn("%", str(node.value), at)
            self.assertNotIsInstance(node, (ast.Div, ast.MatMult), at)

    def test_functions_and_classes(self):
        for at, path, node in self.walked():
            if isinstance(node, (ast.FunctionDef, ast.ClassDef)):
                self.assertEqual(node.decorator_list, [], at)
            if isinstance(node, ast.arguments):
                self.assertEqual((node.vararg, node.kwarg, node.kwonlyargs, node.posonlyargs), (None, None, [], []), at)
            if isinstance(node, ast.ClassDef):
                self.assertLessEqual(len(node.bases), 1, at)
                self.assertIn(node, self.trees[path].body, at)
                body = node.body[1:] if ast.get_docstring(node) else node.body
                self.assertTrue(all(isinstance(one, (ast.FunctionDef, ast.Pass)) for one in body), at)

    def test_top_of_a_module(self):
        allowed = (ast.FunctionDef, ast.ClassDef, ast.ImportFrom, ast.Assign)
        for path, tree in self.trees.items():
            names = []
            for node in tree.body[1:] if ast.get_docstring(tree) else tree.body:
                if path.name != MAIN:
                    self.assertIsInstance(node, allowed, path.name)
                names.extend(bound_names(ast.Module([node], [])) if isinstance(node, ast.Assign) else [])
                names.extend([node.name] if hasattr(node, "name") else [])
            self.assertEqual(len(names), len(set(names)), path.name)

    def test_names(self):
        built_in = set(dir(builtins))
        for path, tree in self.trees.items():
            bound = bound_names(tree)
            for name in bound:
                if name not in TWO_UNDERSCORES:
                    self.assertRegex(name, r"^[A-Za-z][A-Za-z0-9_]*$", path.name)
                    self.assertNotIn(name, UNUSED_NAMES, path.name)
                    self.assertNotIn(name, built_in, path.name)
            allowed = set(bound) | set(BUILT_IN) | ({"print", "sys", "__name__"} if path.name == MAIN else set())
            for node in ast.walk(tree):
                if isinstance(node, ast.Name):
                    self.assertIn(node.id, allowed, f"{path.name}:{node.lineno}")

    def test_methods_and_values(self):
        own = set()
        for tree in self.trees.values():
            own.update(bound_names(tree))
        for at, path, node in self.walked():
            if isinstance(node, ast.Attribute) and path.name != MAIN:
                self.assertIn(node.attr, own | set(METHODS), at)

    def test_no_local_is_called_like_a_class_or_an_import_of_its_file(self):
        for path, tree in self.trees.items():
            taken = set(imported(tree)) | {node.name for node in tree.body if isinstance(node, ast.ClassDef)}
            for node in ast.walk(tree):
                if isinstance(node, ast.arg):
                    self.assertNotIn(node.arg, taken, f"{path.name}:{node.lineno}")
                if isinstance(node, ast.Name) and isinstance(node.ctx, ast.Store):
                    self.assertNotIn(node.id, taken, f"{path.name}:{node.lineno}")

    def test_no_name_is_a_method_and_a_value(self):
        methods, values = set(), set()
        for at, path, node in self.walked():
            if isinstance(node, ast.ClassDef):
                names = [one.name for one in node.body if isinstance(one, ast.FunctionDef)]
                self.assertEqual(len(names), len(set(names)), at)
                methods.update(names)
            if isinstance(node, ast.Attribute) and isinstance(node.ctx, ast.Store):
                values.add(node.attr)
        self.assertEqual(methods & values, set())

    def test_keywords(self):
        for at, path, node in self.walked():
            if called(node) in BUILT_IN or called(node) in METHODS:
                for one in node.keywords:
                    self.assertIn(one.arg, KEYWORDS.get(called(node), ()), at)

    def test_walked_at_once(self):
        for path, tree in self.trees.items():
            allowed = []
            for node in ast.walk(tree):
                if isinstance(node, (ast.For, ast.comprehension)):
                    allowed.append(node.iter)
                if called(node) in WALKERS and node.args:
                    allowed.extend(node.args if called(node) == "zip" else node.args[:1])
            for node in ast.walk(tree):
                if called(node) in WALKED:
                    self.assertTrue(any(node is one for one in allowed), f"{path.name}:{node.lineno}")

    def test_what_a_loop_walks_is_not_changed_in_it(self):
        for at, path, node in self.walked():
            if isinstance(node, ast.For):
                self.assertEqual(set(walked_by(node)) & set(changed_in(node)), set(), at)

    def test_sets_are_not_kept(self):
        for path, tree in self.trees.items():
            allowed = []
            for node in ast.walk(tree):
                if called(node) in ("len", "sorted") and not node.keywords:
                    allowed.extend(node.args)
                if isinstance(node, ast.Compare):
                    allowed.extend([node.left] + node.comparators)
            for node in ast.walk(tree):
                if called(node) == "set":
                    self.assertTrue(any(node is one for one in allowed), f"{path.name}:{node.lineno}")

    def test_lists_and_dicts_of_a_files_top_are_only_read(self):
        for path, tree in self.trees.items():
            kept = [node.targets[0].id for node in tree.body
                    if isinstance(node, ast.Assign) and isinstance(node.value, (ast.List, ast.Dict))]
            for node in ast.walk(tree):
                at = f"{path.name}:{getattr(node, 'lineno', 0)}"
                if isinstance(node, ast.Subscript) and isinstance(node.ctx, ast.Store):
                    self.assertNotIn(ast.unparse(node.value), kept, at)
                if called(node) in CHANGES and isinstance(node.func, ast.Attribute):
                    self.assertNotIn(ast.unparse(node.func.value), kept, at)
                if isinstance(node, ast.Return) and node.value is not None:
                    self.assertNotIn(ast.unparse(node.value), kept, at)

    def test_is_stands_beside_none_true_and_false_alone(self):
        for at, path, node in self.walked():
            if isinstance(node, ast.Compare) and any(isinstance(one, (ast.Is, ast.IsNot)) for one in node.ops):
                sides = [node.left] + node.comparators
                found = [one.value for one in sides if isinstance(one, ast.Constant)]
                self.assertTrue(any(one is None or one is True or one is False for one in found), at)


if __name__ == "__main__":
    unittest.main()
