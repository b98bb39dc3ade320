"""Those rules of LANGUAGE.md that are easily seen in a file, for all files of the package."""

import ast
import builtins
import pathlib
import unittest

PACKAGE = pathlib.Path(__file__).resolve().parent.parent / "keptarcs"
FILES = sorted(PACKAGE.rglob("*.py"))
LIBRARY = {"heapq", "math", "itertools", "collections"}
BUILTINS = set("""
    len range enumerate zip min max sum abs sorted reversed int str bool list tuple dict set isinstance ord
    repr any all divmod Exception
""".split())
WORDS = set("""
    type typing enum Enum IntEnum StrEnum Flag IntFlag Generic Protocol ABC ABCMeta namedtuple NamedTuple TypedDict
    abstractmethod dataclass overload contextmanager register mro elements open input law version_info args
""".split())
BARRED = (
    ast.Global, ast.AsyncFunctionDef, ast.Await, ast.Div, ast.Pow, ast.GeneratorExp, ast.AnnAssign, ast.Import,
)


def nodes(*kinds):
    """The pairs (file, node) of all nodes of some kinds."""
    return [
        (file.name, node) for file in FILES for node in ast.walk(ast.parse(file.read_text()))
        if isinstance(node, kinds)
    ]


class LanguageTest(unittest.TestCase):
    def test_the_folder_has_nothing_else(self):
        others = [path for path in PACKAGE.rglob("*") if path.is_file() and path.suffix not in (".py", ".pyc")]
        self.assertEqual(others, [])
        self.assertIn(PACKAGE / "__init__.py", FILES)

    def test_characters_and_sizes(self):
        for file in FILES:
            text = file.read_text()
            self.assertLess(set(text), {chr(k) for k in range(32, 127)} | {"\n"}, file)
            self.assertLessEqual(len(text.splitlines()), 399, file)
            self.assertLessEqual(max(len(line) for line in text.splitlines()), 120, file)
        for file, node in nodes(ast.FunctionDef):
            self.assertLessEqual(node.end_lineno - node.lineno + 1, 40, (file, node.name))

    def test_imports(self):
        for file, node in nodes(ast.ImportFrom):
            self.assertEqual(node.level, 0, file)
            self.assertTrue(node.module in LIBRARY or node.module.startswith("keptarcs."), file)
            self.assertTrue(all(name.asname is None and name.name != "*" for name in node.names), file)

    def test_no_barred_statements_and_signs(self):
        self.assertEqual([(file, ast.dump(node)) for file, node in nodes(*BARRED)], [])
        floats = [node for _, node in nodes(ast.Constant) if isinstance(node.value, float)]
        self.assertEqual(floats, [])
        strings = [node.value for _, node in nodes(ast.Constant) if isinstance(node.value, str)]
        self.assertFalse(any("%" in text for text in strings))

    def test_builtins(self):
        for file, node in nodes(ast.Name, ast.FunctionDef, ast.arg):
            name = getattr(node, "id", None) or getattr(node, "arg", None) or node.name
            if name in vars(builtins):
                self.assertIn(name, BUILTINS, file)
                self.assertIsInstance(getattr(node, "ctx", None), ast.Load, (file, name))

    def test_words(self):
        found = [(file, node) for file, node in nodes(ast.Name, ast.arg, ast.Attribute, ast.FunctionDef, ast.ClassDef)]
        for file, node in found:
            names = {getattr(node, field, None) for field in ("id", "arg", "attr", "name")}
            self.assertEqual(names & WORDS, set(), file)

    def test_no_name_of_an_import_is_given_to_anything_else(self):
        for file in FILES:
            tree = ast.parse(file.read_text())
            bound = [name.name for node in tree.body if isinstance(node, ast.ImportFrom) for name in node.names]
            bound += [node.name for node in tree.body if isinstance(node, (ast.FunctionDef, ast.ClassDef))]
            self.assertEqual(len(bound), len(set(bound)), file)
            for node in ast.walk(tree):
                if isinstance(node, ast.arg):
                    self.assertNotIn(node.arg, bound, file)
                if isinstance(node, ast.Name) and isinstance(node.ctx, ast.Store):
                    self.assertNotIn(node.id, bound, file)

    def test_no_two_files_import_from_each_other(self):
        known = {
            file.stem: {
                node.module.partition(".")[2] for node in ast.parse(file.read_text()).body
                if isinstance(node, ast.ImportFrom) and node.module.startswith("keptarcs.")
            }
            for file in FILES
        }
        while known:
            free = [file for file, others in known.items() if not others & set(known)]
            self.assertTrue(free, known)
            known = {file: others for file, others in known.items() if file not in free}


if __name__ == "__main__":
    unittest.main()
