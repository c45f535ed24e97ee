"""The package's files held against the rules of ../shared/LANGUAGE.md that a walk over the code can see."""

import ast
import builtins
import pathlib
import re
import unittest

PACKAGE = pathlib.Path(__file__).resolve().parent.parent / "mergeline"
MAIN = "__main__.py"

STATEMENTS = (
    ast.FunctionDef, ast.ClassDef, ast.Assign, ast.AugAssign, ast.If, ast.While, ast.For, ast.Return, ast.Break,
    ast.Continue, ast.Pass, ast.Raise, ast.Try, ast.Expr, ast.ImportFrom,
)
EXPRESSIONS = (
    ast.Constant, ast.Name, ast.List, ast.Tuple, ast.Dict, ast.Set, ast.BinOp, ast.UnaryOp, ast.BoolOp, ast.Compare,
    ast.IfExp, ast.Call, ast.Attribute, ast.Subscript, ast.Slice, ast.ListComp, ast.JoinedStr, ast.FormattedValue,
    ast.Lambda,
)
BUILT_IN = """
    len range enumerate zip min max sum abs sorted reversed int str bool list tuple dict set frozenset isinstance ord
    repr any all divmod Exception ValueError TypeError KeyError IndexError LookupError ZeroDivisionError
    ArithmeticError OverflowError RuntimeError NotImplementedError AttributeError StopIteration
""".split()
METHODS = """
    append clear copy count endswith extend find get index insert isalnum isalpha isdigit islower isspace isupper items
    join keys ljust lower lstrip partition pop remove replace reverse rfind rjust rpartition rsplit rstrip setdefault
    split splitlines startswith strip update upper values zfill bit_length
""".split()
TWO_UNDERSCORES = ("__init__", "__eq__", "__repr__", "__str__", "__len__")
UNUSED_NAMES = ("register", "mro", "elements", "open", "input", "format", "format_map", "args", "encode", "sort")
UNUSED_WORDS = """
    type typing typing_extensions enum Enum IntEnum StrEnum Flag IntFlag Generic Protocol ABC ABCMeta namedtuple
    NamedTuple TypedDict TYPE_CHECKING abstractmethod
""".split()


def own_files():
    return sorted(path for path in PACKAGE.rglob("*") if path.is_file() and "__pycache__" not in path.parts)


def bound_names(tree):
    """Every name that the code binds."""
    names = []
    for node in ast.walk(tree):
        if isinstance(node, (ast.FunctionDef, ast.ClassDef)):
            names.append(node.name)
        elif isinstance(node, ast.arg):
            names.append(node.arg)
        elif isinstance(node, ast.Name) and isinstance(node.ctx, ast.Store):
            names.append(node.id)
        elif isinstance(node, ast.Attribute) and isinstance(node.ctx, ast.Store):
            names.append(node.attr)
        elif isinstance(node, ast.ImportFrom):
            names.extend(alias.asname or alias.name for alias in node.names)
        elif isinstance(node, ast.ExceptHandler) and node.name:
            names.append(node.name)
    return names


class Language(unittest.TestCase):
    def setUp(self):
        self.texts = {path: path.read_text(encoding="utf-8") for path in own_files()}
        self.trees = {path: ast.parse(text) for path, text in self.texts.items()}

    def walked(self):
        for path, tree in self.trees.items():
            for node in ast.walk(tree):
                yield f"{path.name}:{getattr(node, 'lineno', 0)}", path, node

    def test_files(self):
        self.assertTrue(self.texts)
        for path in self.texts:
            self.assertRegex(path.name, r"^([a-z][a-z0-9_]*|__init__|__main__)\.py$")
            self.assertTrue((path.parent / "__init__.py").is_file())

    def test_signs_and_sizes(self):
        for path, text in self.texts.items():
            rows = text.split("\n")
            self.assertLessEqual(len(rows), 401, path.name)
            self.assertLessEqual(max(len(row) for row in rows), 120, path.name)
            self.assertRegex(text, r"\A[ -~\n]*\Z", path.name)
        for at, path, node in self.walked():
            if isinstance(node, ast.FunctionDef):
                self.assertLessEqual(node.end_lineno - node.lineno + 1, 40, at)

    def test_words_that_stand_nowhere(self):
        for path, text in self.texts.items():
            found = set(re.findall(r"\w+", text))
            self.assertEqual(found & set(UNUSED_WORDS), set(), path.name)
            self.assertNotRegex(text, "dataclass|overload|contextmanager", path.name)

    def test_imports(self):
        for at, path, node in self.walked():
            if isinstance(node, ast.ImportFrom):
                self.assertEqual(node.level, 0, at)
                self.assertRegex(node.module, r"^mergeline\.[a-z]", at)
                source = PACKAGE.joinpath(*node.module.split(".")[1:]).with_suffix(".py")
                defined = [one.name for one in self.trees[source].body if hasattr(one, "name")]
                defined += [name.id for one in self.trees[source].body if isinstance(one, ast.Assign)
                            for name in one.targets]
                for alias in node.names:
                    self.assertIn(alias.name, defined, at)

    def test_no_two_files_draw_from_one_another(self):
        draws = {}
        for path, tree in self.trees.items():
            draws[path.stem] = {node.module.split(".")[-1] for node in tree.body if isinstance(node, ast.ImportFrom)}
        while draws:
            free = [stem for stem, others in draws.items() if not others & set(draws)]
            self.assertTrue(free, sorted(draws))
            for stem in free:
                draws.pop(stem)

    def test_statements_and_expressions(self):
        for at, path, node in self.walked():
            if isinstance(node, ast.stmt) and not (path.name == MAIN and isinstance(node, ast.Import)):
                self.assertIsInstance(node, STATEMENTS, at)
            if isinstance(node, ast.expr):
                self.assertIsInstance(node, EXPRESSIONS, at)
            if isinstance(node, ast.Assign):
                self.assertEqual(len(node.targets), 1, at)
            if isinstance(node, (ast.For, ast.While)):
                self.assertEqual(node.orelse, [], at)
            if isinstance(node, ast.Try):
                self.assertEqual(node.finalbody, [], at)
            if isinstance(node, ast.ListComp):
                self.assertEqual(len(node.generators), 1, at)
                self.assertLessEqual(len(node.generators[0].ifs), 1, at)
            if isinstance(node, ast.Constant):
                self.assertIsInstance(node.value, (int, str, type(None)), at)
                self.assertNotIn("%", str(node.value), at)
            self.assertNotIsInstance(node, (ast.Div, ast.MatMult), at)

    def test_functions_and_classes(self):
        for at, path, node in self.walked():
            if isinstance(node, (ast.FunctionDef, ast.ClassDef)):
                self.assertEqual(node.decorator_list, [], at)
            if isinstance(node, ast.arguments):
                self.assertEqual((node.vararg, node.kwarg, node.kwonlyargs, node.posonlyargs), (None, None, [], []), at)
            if isinstance(node, ast.ClassDef):
                self.assertLessEqual(len(node.bases), 1, at)
                self.assertIn(node, self.trees[path].body, at)
                body = node.body[1:] if ast.get_docstring(node) else node.body
                self.assertTrue(all(isinstance(one, (ast.FunctionDef, ast.Pass)) for one in body), at)

    def test_top_of_a_module(self):
        allowed = (ast.FunctionDef, ast.ClassDef, ast.ImportFrom, ast.Assign)
        for path, tree in self.trees.items():
            names = []
            for node in tree.body[1:] if ast.get_docstring(tree) else tree.body:
                if path.name != MAIN:
                    self.assertIsInstance(node, allowed, path.name)
                names.extend(bound_names(ast.Module([node], [])) if isinstance(node, ast.Assign) else [])
                names.extend([node.name] if hasattr(node, "name") else [])
            self.assertEqual(len(names), len(set(names)), path.name)

    def test_names(self):
        built_in = set(dir(builtins))
        for path, tree in self.trees.items():
            bound = bound_names(tree)
            for name in bound:
                if name not in TWO_UNDERSCORES:
                    self.assertRegex(name, r"^[A-Za-z][A-Za-z0-9_]*$", path.name)
                    self.assertNotIn(name, UNUSED_NAMES, path.name)
                    self.assertNotIn(name, built_in, path.name)
            allowed = set(bound) | set(BUILT_IN) | ({"print", "sys", "__name__"} if path.name == MAIN else set())
            for node in ast.walk(tree):
                if isinstance(node, ast.Name):
                    self.assertIn(node.id, allowed, f"{path.name}:{node.lineno}")

    def test_methods_and_values(self):
        own = set()
        for tree in self.trees.values():
            own.update(bound_names(tree))
        for at, path, node in self.walked():
            if isinstance(node, ast.Attribute) and path.name != MAIN:
                self.assertIn(node.attr, own | set(METHODS), at)

    def test_is_stands_beside_none_true_and_false_alone(self):
        for at, path, node in self.walked():
            if isinstance(node, ast.Compare) and any(isinstance(one, (ast.Is, ast.IsNot)) for one in node.ops):
                sides = [node.left] + node.comparators
                found = [one.value for one in sides if isinstance(one, ast.Constant)]
                self.assertTrue(any(one is None or one is True or one is False for one in found), at)


if __name__ == "__main__":
    unittest.main()
