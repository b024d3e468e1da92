"""Those rules of LANGUAGE.md that show in a file's rows or in its tree; the others are kept by reading."""

import ast
import builtins
import pathlib
import re
import unittest

FOLDER = pathlib.Path(__file__).resolve().parent.parent / "nearerwork"
FILES = sorted(path for path in FOLDER.iterdir() if path.name != "__pycache__")

OUT = (
    ast.With, ast.Match, ast.Delete, ast.Global, ast.Nonlocal, ast.Assert, ast.Yield, ast.YieldFrom, ast.Await,
    ast.AsyncFor, ast.AsyncFunctionDef, ast.AsyncWith, ast.Div, ast.SetComp, ast.DictComp, ast.GeneratorExp,
    ast.NamedExpr, ast.Starred, ast.Import,
)
BUILT_IN = (
    "len range enumerate zip min max sum abs sorted reversed int str bool list tuple dict set frozenset isinstance ord "
    "repr any all divmod Exception ValueError TypeError KeyError IndexError LookupError ZeroDivisionError "
    "ArithmeticError OverflowError RuntimeError NotImplementedError AttributeError StopIteration"
).split()
TWO_UNDERSCORES = "__init__ __eq__ __repr__ __str__ __len__".split()
WORDS_OUT = re.compile(
    r"\b(type|typing|typing_extensions|enum|Enum|IntEnum|StrEnum|Flag|IntFlag|Generic|Protocol|ABC|ABCMeta|namedtuple"
    r"|NamedTuple|TypedDict|TYPE_CHECKING|abstractmethod)\b|dataclass|overload|contextmanager"
)


def source_of(path):
    return path.read_bytes().decode("ascii")


def nodes_of(path):
    return list(ast.walk(ast.parse(source_of(path))))


class Language(unittest.TestCase):
    def assert_in_no_file(self, found):
        for path in FILES:
            with self.subTest(path=path.name):
                self.assertEqual([], found(path))

    def test_files(self):
        self.assertIn(FOLDER / "__init__.py", FILES)
        for path in FILES:
            self.assertRegex(path.name, r"^([a-z][a-z0-9_]*|__init__)\.py$")
            self.assertTrue(path.is_file())

    def test_signs_and_sizes(self):
        self.assert_in_no_file(lambda path: re.findall(r"[^ -~\n]", source_of(path)))
        self.assert_in_no_file(lambda path: [row for row in source_of(path).split("\n") if len(row) > 120])
        self.assert_in_no_file(lambda path: source_of(path).split("\n")[400:])
        self.assert_in_no_file(lambda path: [
            node.name for node in nodes_of(path)
            if isinstance(node, ast.FunctionDef) and node.end_lineno - node.lineno >= 40
        ])

    def test_words(self):
        self.assert_in_no_file(lambda path: WORDS_OUT.findall(source_of(path)))

    def test_forms(self):
        self.assert_in_no_file(lambda path: [ast.dump(node) for node in nodes_of(path) if isinstance(node, OUT)])
        self.assert_in_no_file(lambda path: [
            node.lineno for node in nodes_of(path) if isinstance(node, (ast.For, ast.While)) and node.orelse
        ])
        self.assert_in_no_file(lambda path: [
            node.value for node in nodes_of(path)
            if isinstance(node, ast.Constant) and isinstance(node.value, (float, complex, bytes))
        ])

    def test_imports(self):
        for path in FILES:
            for node in nodes_of(path):
                if isinstance(node, ast.ImportFrom) and node.module != "__future__":
                    with self.subTest(path=path.name, line=node.lineno):
                        self.assertEqual(0, node.level)
                        package, dot, module = node.module.partition(".")
                        self.assertEqual("nearerwork", package)
                        top = ast.parse(source_of(FOLDER / f"{module}.py")).body
                        bound = [one.name for one in top if isinstance(one, (ast.ClassDef, ast.FunctionDef))]
                        bound += [one.targets[0].id for one in top if isinstance(one, ast.Assign)]
                        self.assertEqual([], [one.name for one in node.names if one.name not in bound])

    def test_names(self):
        def names_out(path):
            nodes = nodes_of(path)
            found = [node.id for node in nodes if isinstance(node, ast.Name)]
            return [name for name in found if hasattr(builtins, name) and name not in BUILT_IN]

        def underscored(path):
            nodes = nodes_of(path)
            found = [node.id for node in nodes if isinstance(node, ast.Name)]
            found += [node.attr for node in nodes if isinstance(node, ast.Attribute)]
            found += [node.arg for node in nodes if isinstance(node, ast.arg)]
            found += [node.name for node in nodes if isinstance(node, (ast.FunctionDef, ast.ClassDef))]
            return [name for name in found if name.startswith("_") and name not in TWO_UNDERSCORES]

        self.assert_in_no_file(names_out)
        self.assert_in_no_file(underscored)


if __name__ == "__main__":
    unittest.main()
