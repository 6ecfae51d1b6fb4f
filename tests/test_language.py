"""The rules of the language that can be read off the files of the package."""

import ast
import builtins
import pathlib
import re
import unittest

PACKAGE = pathlib.Path(__file__).resolve().parent.parent / "tentloops"
FILES = sorted(PACKAGE.glob("*.py"))

BUILTINS = set(
    "len range enumerate zip min max sum abs sorted reversed int str bool bytes list tuple dict set frozenset "
    "isinstance ord repr any all divmod ValueError KeyError IndexError LookupError ZeroDivisionError".split()
)
BARRED_WORDS = (
    "type typing typing_extensions enum Enum IntEnum StrEnum Flag IntFlag Generic Protocol ABC ABCMeta namedtuple "
    "NamedTuple TypedDict TYPE_CHECKING abstractmethod"
).split()
BARRED_PARTS = ("dataclass", "overload", "contextmanager")
BARRED_NODES = (
    ast.GeneratorExp, ast.With, ast.Match, ast.Global, ast.Nonlocal, ast.Yield, ast.YieldFrom, ast.NamedExpr,
    ast.AsyncFunctionDef, ast.Await, ast.Import, ast.Div,
)
BARRED_NAMES = (
    "register mro elements open input version_info with_traceback add_note attrgetter breakpoint compile copyright "
    "credits delattr dir eval exec exit gc getattr globals hasattr help id importlib license locals methodcaller os "
    "quit setattr super vars sys"
).split()
MODULES = (
    "__init__ book counts easing errors exchange hall matching pulling rounds stretch tents texts words"
).split()
FIRST_METHODS = (
    "append clear copy count endswith extend find get index insert isalnum isalpha isdigit islower isspace isupper "
    "items join keys ljust lower lstrip partition pop remove replace reverse rfind rjust rpartition rsplit rstrip "
    "setdefault split splitlines startswith strip update upper values zfill bit_length add"
).split()
TOP_NODES = (ast.ImportFrom, ast.FunctionDef, ast.ClassDef, ast.Assign)


def bound_names(tree):
    """All names that a file gives to something."""
    names = [node.id for node in ast.walk(tree) if isinstance(node, ast.Name) and isinstance(node.ctx, ast.Store)]
    names += [node.arg for node in ast.walk(tree) if isinstance(node, ast.arg)]
    names += [node.name for node in ast.walk(tree) if isinstance(node, (ast.FunctionDef, ast.ClassDef))]
    return names + [alias.name for node in ast.walk(tree) if isinstance(node, ast.ImportFrom) for alias in node.names]


def local_names(tree):
    """All names that the functions of a file give to something within them."""
    functions = [node for node in ast.walk(tree) if isinstance(node, ast.FunctionDef)]
    return [name for one in functions for name in bound_names(one) if name != one.name]


def imported(tree):
    """The modules from which a file imports, with the names."""
    nodes = [node for node in ast.walk(tree) if isinstance(node, ast.ImportFrom)]
    return [(node.module.split(".")[-1], alias) for node in nodes for alias in node.names]


def each():
    """Each file's text and its tree."""
    texts = [path.read_text(encoding="utf-8") for path in FILES]
    return [(text, ast.parse(text)) for text in texts]


class LanguageTest(unittest.TestCase):

    def test_there_are_files(self):
        self.assertLessEqual(set(MODULES), {path.stem for path in FILES})

    def test_only_py_files(self):
        others = [p.name for p in PACKAGE.iterdir() if p not in FILES and p.name != "__pycache__"]
        self.assertEqual(others, [])

    def test_sizes(self):
        for text, tree in each():
            lines = text.split("\n")
            self.assertLessEqual(len(lines), 401)
            self.assertLessEqual(max(len(line) for line in lines), 120)
            for node in ast.walk(tree):
                if isinstance(node, ast.FunctionDef):
                    self.assertLessEqual(node.end_lineno - node.lineno + 1, 40, node.name)

    def test_characters_and_words(self):
        for text, tree in each():
            self.assertEqual(re.findall(r"[^ -~\n]", text), [])
            self.assertEqual([w for w in BARRED_WORDS if re.search(rf"\b{w}\b", text)], [])
            self.assertEqual([part for part in BARRED_PARTS if part in text], [])

    def test_statements_and_values(self):
        for text, tree in each():
            self.assertEqual([node for node in ast.walk(tree) if isinstance(node, BARRED_NODES)], [])
            rest = [n for n in tree.body if not isinstance(n, TOP_NODES)]
            self.assertTrue(all(isinstance(n, ast.Expr) and isinstance(n.value, ast.Constant) for n in rest))
            self.assertFalse([n for n in ast.walk(tree) if getattr(n, "decorator_list", [])])
            constants = [n.value for n in ast.walk(tree) if isinstance(n, ast.Constant)]
            self.assertFalse([value for value in constants if isinstance(value, float)])
            self.assertFalse([value for value in constants if isinstance(value, str) and "%" in value])

    def test_names(self):
        for text, tree in each():
            bound = bound_names(tree)
            self.assertEqual([name for name in bound if name.startswith("_") and name != "__init__"], [])
            self.assertEqual([name for name in bound if name in BUILTINS], [])
            read = {n.id for n in ast.walk(tree) if isinstance(n, ast.Name) and isinstance(n.ctx, ast.Load)}
            self.assertEqual(sorted(read - set(bound) - BUILTINS), [])

    def test_names_keep_one_meaning(self):
        for text, tree in each():
            kept = {alias.name for module, alias in imported(tree)}
            kept |= {node.name for node in tree.body if isinstance(node, ast.ClassDef)} | set(dir(builtins))
            self.assertEqual([name for name in local_names(tree) if name in kept], [])
            self.assertEqual([name for name in bound_names(tree) if name in BARRED_NAMES], [])
            tops = [name for node in tree.body for name in bound_names(ast.Module([node], []))
                    if not isinstance(node, (ast.FunctionDef, ast.ClassDef))]
            tops += [node.name for node in tree.body if isinstance(node, (ast.FunctionDef, ast.ClassDef))]
            self.assertEqual(sorted(tops), sorted(set(tops)))

    def test_imports_name_the_file_that_defines_and_make_no_circle(self):
        trees = {path.stem: tree for path, (text, tree) in zip(FILES, each())}
        needs = {}
        for name, tree in trees.items():
            needs[name] = {module for module, alias in imported(tree)}
            for module, alias in imported(tree):
                self.assertIsNone(alias.asname)
                self.assertIn(alias.name, [getattr(node, "name", None) for node in trees[module].body])
        while needs:
            ready = [name for name in needs if not needs[name]]
            self.assertTrue(ready, needs)
            needs = {name: needs[name] - set(ready) for name in needs if name not in ready}

    def test_no_refusal_writes_out_what_was_handed_in(self):
        # A number of more than 4,300 figures cannot be written out, so that another error would come.
        for text, tree in each():
            for node in ast.walk(tree):
                if isinstance(node, ast.Raise) and node.exc is not None:
                    self.assertEqual([n for n in ast.walk(node) if isinstance(n, ast.JoinedStr)], [], ast.dump(node))

    def test_methods_and_attributes_have_names_of_their_own(self):
        classes = [node for text, tree in each() for node in tree.body if isinstance(node, ast.ClassDef)]
        methods = [part.name for one in classes for part in one.body if isinstance(part, ast.FunctionDef)]
        nodes = [node for text, tree in each() for node in ast.walk(tree) if isinstance(node, ast.Attribute)]
        assigned = {node.attr for node in nodes if isinstance(node.ctx, ast.Store)}
        self.assertEqual(sorted(assigned & set(methods)), [])
        own = [name for name in methods if name != "__init__"]
        self.assertEqual(sorted(own), sorted(set(own)))
        for kind in (str, int, list, dict, set, bytes, tuple):
            self.assertEqual(sorted((assigned | set(own)) & set(dir(kind))), [])
        others = {node.attr for node in nodes} - assigned - set(own) - set(FIRST_METHODS)
        self.assertEqual(sorted(others), [])

    def test_powers_are_written_out(self):
        for text, tree in each():
            for node in ast.walk(tree):
                if isinstance(node, ast.BinOp) and isinstance(node.op, ast.Pow):
                    self.assertIsInstance(node.right, ast.Constant)
                    self.assertIn(node.right.value, range(65))

    def test_imports_stay_within_the_package(self):
        for text, tree in each():
            for node in ast.walk(tree):
                if isinstance(node, ast.ImportFrom):
                    self.assertEqual((node.level, node.module.split(".")[0]), (0, "tentloops"))


if __name__ == "__main__":
    unittest.main()
