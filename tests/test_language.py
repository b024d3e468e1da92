"""Those rules of LANGUAGE.md that show in a file's rows or in its tree; the others are kept by reading."""

import ast
import builtins
import pathlib
import re
import unittest

FOLDER = pathlib.Path(__file__).resolve().parent.parent / "nearerwork"
FILES = sorted(path for path in FOLDER.iterdir() if path.name != "__pycache__")

OUT = (
    ast.With, ast.Match, ast.Delete, ast.Global, ast.Nonlocal, ast.Assert, ast.Yield, ast.YieldFrom, ast.Await,
    ast.AsyncFor, ast.AsyncFunctionDef, ast.AsyncWith, ast.Div, ast.SetComp, ast.DictComp, ast.GeneratorExp,
    ast.NamedExpr, ast.Starred, ast.Import,
)
BUILT_IN = (
    "len range enumerate zip min max sum abs sorted reversed int str bool list tuple dict set frozenset isinstance ord "
    "repr any all divmod Exception ValueError TypeError KeyError IndexError LookupError ZeroDivisionError "
    "ArithmeticError OverflowError RuntimeError NotImplementedError AttributeError StopIteration"
).split()
METHODS = (
    "append clear copy count endswith extend find get index insert isalnum isalpha isdigit islower isspace isupper items "
    "join keys ljust lower lstrip partition pop remove replace reverse rfind rjust rpartition rsplit rstrip setdefault "
    "split splitlines startswith strip update upper values zfill bit_length"
).split()
TWO_UNDERSCORES = "__init__ __eq__ __repr__ __str__ __len__".split()
WORDS_OUT = re.compile(
    r"\b(type|typing|typing_extensions|enum|Enum|IntEnum|StrEnum|Flag|IntFlag|Generic|Protocol|ABC|ABCMeta|namedtuple"
    r"|NamedTuple|TypedDict|TYPE_CHECKING|abstractmethod)\b|dataclass|overload|contextmanager"
)


def source_of(path):
    return path.read_bytes().decode("ascii")


def nodes_of(path):
    return list(ast.walk(ast.parse(source_of(path))))


def names_of(nodes):
    return [node.id for node in nodes if isinstance(node, ast.Name)]


def drawn_from(path):
    return [node.module.partition(".")[2] for node in nodes_of(path) if isinstance(node, ast.ImportFrom)]


def own_methods():
    classes = [node for path in FILES for node in nodes_of(path) if isinstance(node, ast.ClassDef)]
    return [one.name for node in classes for one in node.body if isinstance(one, ast.FunctionDef)]


def own_values():
    nodes = [node for path in FILES for node in nodes_of(path)]
    return [node.attr for node in nodes if isinstance(node, ast.Attribute) and isinstance(node.ctx, ast.Store)]


class Language(unittest.TestCase):
    def assert_in_no_file(self, found):
        for path in FILES:
            with self.subTest(path=path.name):
                self.assertEqual([], found(path))

    def test_files(self):
        self.assertIn(FOLDER / "__init__.py", FILES)
        for path in FILES:
            self.assertRegex(path.name, r"^([a-z][a-z0-9_]*|__init__)\.py$")
            self.assertTrue(path.is_file())

    def test_signs_and_sizes(self):
        self.assert_in_no_file(lambda path: re.findall(r"[^ -~\n]", source_of(path)))
        self.assert_in_no_file(lambda path: [row for row in source_of(path).split("\n") if len(row) > 120])
        self.assert_in_no_file(lambda path: source_of(path).split("\n")[400:])
        self.assert_in_no_file(lambda path: [
            node.name for node in nodes_of(path)
            if isinstance(node, ast.FunctionDef) and node.end_lineno - node.lineno >= 40
        ])

    def test_words(self):
        self.assert_in_no_file(lambda path: WORDS_OUT.findall(source_of(path)))

    def test_forms(self):
        self.assert_in_no_file(lambda path: [ast.dump(node) for node in nodes_of(path) if isinstance(node, OUT)])
        self.assert_in_no_file(lambda path: [
            node.lineno for node in nodes_of(path) if isinstance(node, (ast.For, ast.While)) and node.orelse
        ])
        self.assert_in_no_file(lambda path: [
            node.value for node in nodes_of(path)
            if isinstance(node, ast.Constant) and isinstance(node.value, (float, complex, bytes))
        ])

    def test_imports(self):
        for path in FILES:
            for node in nodes_of(path):
                if isinstance(node, ast.ImportFrom) and node.module != "__future__":
                    with self.subTest(path=path.name, line=node.lineno):
                        self.assertEqual(0, node.level)
                        package, dot, module = node.module.partition(".")
                        self.assertEqual("nearerwork", package)
                        top = ast.parse(source_of(FOLDER / f"{module}.py")).body
                        bound = [one.name for one in top if isinstance(one, (ast.ClassDef, ast.FunctionDef))]
                        bound += [one.targets[0].id for one in top if isinstance(one, ast.Assign)]
                        self.assertEqual([], [one.name for one in node.names if one.name not in bound])

    def test_names(self):
        def names_out(path):
            return [name for name in names_of(nodes_of(path)) if hasattr(builtins, name) and name not in BUILT_IN]

        def underscored(path):
            nodes = nodes_of(path)
            found = names_of(nodes)
            found += [node.attr for node in nodes if isinstance(node, ast.Attribute)]
            found += [node.arg for node in nodes if isinstance(node, ast.arg)]
            found += [node.name for node in nodes if isinstance(node, (ast.FunctionDef, ast.ClassDef))]
            return [name for name in found if name.startswith("_") and name not in TWO_UNDERSCORES]

        self.assert_in_no_file(names_out)
        self.assert_in_no_file(underscored)

    def test_locals(self):
        methods = own_methods()

        def called_alike(path):
            nodes = nodes_of(path)
            bound = [node.id for node in nodes if isinstance(node, ast.Name) and isinstance(node.ctx, ast.Store)]
            bound += [node.arg for node in nodes if isinstance(node, ast.arg)]
            taken = [node.name for node in nodes if isinstance(node, (ast.ClassDef, ast.FunctionDef, ast.alias))]
            taken = [name for name in taken if name not in methods]
            return [name for name in bound if name in taken or hasattr(builtins, name)]

        self.assert_in_no_file(called_alike)

    def test_methods_and_values(self):
        self.assertEqual([], sorted(set(own_methods()) & set(own_values())))
        free = METHODS + own_methods()
        plain = [name for kind in (str, int, list, dict, set, bytes, tuple) for name in dir(kind)]
        self.assertEqual([], [
            name for name in own_methods() + own_values()
            if name in plain and name not in METHODS and name not in TWO_UNDERSCORES
        ])
        self.assert_in_no_file(lambda path: [
            node.func.attr for node in nodes_of(path)
            if isinstance(node, ast.Call) and isinstance(node.func, ast.Attribute) and node.func.attr not in free
        ])

    def test_one_for_one_target_plain_parameters(self):
        self.assert_in_no_file(lambda path: [
            node.lineno for node in nodes_of(path) if isinstance(node, ast.ListComp)
            and (len(node.generators) > 1 or len(node.generators[0].ifs) > 1)
        ])
        self.assert_in_no_file(lambda path: [
            node.lineno for node in nodes_of(path) if isinstance(node, ast.Assign) and len(node.targets) > 1
        ])
        self.assert_in_no_file(lambda path: [
            node.name for node in nodes_of(path) if isinstance(node, (ast.FunctionDef, ast.ClassDef))
            and (node.decorator_list or (isinstance(node, ast.FunctionDef) and (
                node.args.vararg or node.args.kwarg or node.args.kwonlyargs)))
        ])

    def test_no_two_files_draw_from_one_another(self):
        for path in FILES:
            reached = drawn_from(path)
            for module in reached:
                reached += [one for one in drawn_from(FOLDER / f"{module}.py") if one not in reached]
            self.assertNotIn(path.stem, reached)


if __name__ == "__main__":
    unittest.main()
