"""The rules of the language that can be read off the files of the package."""

import ast
import pathlib
import re
import unittest

PACKAGE = pathlib.Path(__file__).resolve().parent.parent / "tentloops"
FILES = sorted(PACKAGE.glob("*.py"))

BUILTINS = set(
    "len range enumerate zip min max sum abs sorted reversed int str bool bytes list tuple dict set frozenset "
    "isinstance ord repr any all divmod ValueError KeyError IndexError LookupError ZeroDivisionError".split()
)
BARRED_WORDS = (
    "type typing typing_extensions enum Enum IntEnum StrEnum Flag IntFlag Generic Protocol ABC ABCMeta namedtuple "
    "NamedTuple TypedDict TYPE_CHECKING abstractmethod"
).split()
BARRED_PARTS = ("dataclass", "overload", "contextmanager")
BARRED_NODES = (
    ast.GeneratorExp, ast.With, ast.Match, ast.Global, ast.Nonlocal, ast.Yield, ast.YieldFrom, ast.NamedExpr,
    ast.AsyncFunctionDef, ast.Await, ast.Import, ast.Div,
)
TOP_NODES = (ast.ImportFrom, ast.FunctionDef, ast.ClassDef, ast.Assign)


def bound_names(tree):
    """All names that a file gives to something."""
    names = [node.id for node in ast.walk(tree) if isinstance(node, ast.Name) and isinstance(node.ctx, ast.Store)]
    names += [node.arg for node in ast.walk(tree) if isinstance(node, ast.arg)]
    names += [node.name for node in ast.walk(tree) if isinstance(node, (ast.FunctionDef, ast.ClassDef))]
    return names + [alias.name for node in ast.walk(tree) if isinstance(node, ast.ImportFrom) for alias in node.names]


def each():
    """Each file's text and its tree."""
    texts = [path.read_text(encoding="utf-8") for path in FILES]
    return [(text, ast.parse(text)) for text in texts]


class LanguageTest(unittest.TestCase):

    def test_there_are_files(self):
        self.assertLessEqual({"__init__.py", "errors.py", "exchange.py", "tents.py", "words.py"}, {p.name for p in FILES})

    def test_only_py_files(self):
        others = [p.name for p in PACKAGE.iterdir() if p not in FILES and p.name != "__pycache__"]
        self.assertEqual(others, [])

    def test_sizes(self):
        for text, tree in each():
            lines = text.split("\n")
            self.assertLessEqual(len(lines), 401)
            self.assertLessEqual(max(len(line) for line in lines), 120)
            for node in ast.walk(tree):
                if isinstance(node, ast.FunctionDef):
                    self.assertLessEqual(node.end_lineno - node.lineno + 1, 40, node.name)

    def test_characters_and_words(self):
        for text, tree in each():
            self.assertEqual(re.findall(r"[^ -~\n]", text), [])
            self.assertEqual([w for w in BARRED_WORDS if re.search(rf"\b{w}\b", text)], [])
            self.assertEqual([part for part in BARRED_PARTS if part in text], [])

    def test_statements_and_values(self):
        for text, tree in each():
            self.assertEqual([node for node in ast.walk(tree) if isinstance(node, BARRED_NODES)], [])
            rest = [n for n in tree.body if not isinstance(n, TOP_NODES)]
            self.assertTrue(all(isinstance(n, ast.Expr) and isinstance(n.value, ast.Constant) for n in rest))
            self.assertFalse([n for n in ast.walk(tree) if getattr(n, "decorator_list", [])])
            constants = [n.value for n in ast.walk(tree) if isinstance(n, ast.Constant)]
            self.assertFalse([value for value in constants if isinstance(value, float)])
            self.assertFalse([value for value in constants if isinstance(value, str) and "%" in value])

    def test_names(self):
        for text, tree in each():
            bound = bound_names(tree)
            self.assertEqual([name for name in bound if name.startswith("_") and name != "__init__"], [])
            self.assertEqual([name for name in bound if name in BUILTINS], [])
            read = {n.id for n in ast.walk(tree) if isinstance(n, ast.Name) and isinstance(n.ctx, ast.Load)}
            self.assertEqual(sorted(read - set(bound) - BUILTINS), [])

    def test_no_refusal_writes_out_what_was_handed_in(self):
        # A number of more than 4,300 figures cannot be written out, so that another error would come.
        for text, tree in each():
            for node in ast.walk(tree):
                if isinstance(node, ast.Raise) and node.exc is not None:
                    self.assertEqual([n for n in ast.walk(node) if isinstance(n, ast.JoinedStr)], [], ast.dump(node))

    def test_imports_stay_within_the_package(self):
        for text, tree in each():
            for node in ast.walk(tree):
                if isinstance(node, ast.ImportFrom):
                    self.assertEqual((node.level, node.module.split(".")[0]), (0, "tentloops"))


if __name__ == "__main__":
    unittest.main()
