"""The rules of LANGUAGE.md that a short look at the files shows."""

import ast
import builtins
import unittest
from pathlib import Path

PACKAGE = Path(__file__).resolve().parent.parent / "calmcuts"
FILES = sorted(PACKAGE.rglob("*.py"))
LIBRARY = {"heapq": {"heappush", "heappop", "heapify", "heapreplace", "heappushpop"},
           "math": {"gcd", "lcm", "isqrt", "comb", "perm", "factorial"},
           "itertools": {"product", "combinations", "permutations"}}
BUILTINS = set("""len range enumerate zip min max sum abs sorted reversed int str bool bytes list tuple dict set frozenset
    isinstance ord repr any all divmod iter next map super property staticmethod classmethod object
    Exception ValueError TypeError KeyError IndexError LookupError ZeroDivisionError ArithmeticError OverflowError
    RuntimeError NotImplementedError AttributeError StopIteration NotImplemented""".split())


BARRED_BEGINNINGS = ("_wall", "_pe_", "_dcw_", "_enum_", "_cm_", "_twin_re_", "_lay_", "_law_", "_stub_", "_sre",
                     "_WallAttr", "_cold", "_tuplegetter", "_outside", "_record", "_written_out", "_member_names")
BARRED_NAMES = set("""register mro elements open input law version_info with_traceback add_note attrgetter breakpoint
    builtins compile copyright delattr dir eval exec exit gc getattr globals hasattr help id importlib license locals
    methodcaller os quit setattr super type vars sys format format_map""".split())
BARRED_WORDS = """type typing typing_extensions enum Enum IntEnum StrEnum Flag IntFlag Generic Protocol ABC ABCMeta
    namedtuple NamedTuple TypedDict TYPE_CHECKING abstractmethod""".split()


def tree(file):
    return ast.parse(file.read_text(encoding="utf-8"))


def name_of(file):
    parts = file.relative_to(PACKAGE.parent).with_suffix("").parts
    return ".".join(parts[:-1] if parts[-1] == "__init__" else parts)


def defined_in(file):
    names = set()
    for row in tree(file).body:
        if isinstance(row, (ast.FunctionDef, ast.ClassDef)):
            names.add(row.name)
        elif isinstance(row, ast.Assign):
            names.update(target.id for target in row.targets)
    return names


class Language(unittest.TestCase):
    def test_folder(self):
        for path in PACKAGE.rglob("*"):
            if "__pycache__" not in path.parts:
                self.assertTrue(path.is_dir() or path.suffix == ".py", path)

    def test_lines_and_characters(self):
        for file in FILES:
            with self.subTest(file.name):
                text = file.read_text(encoding="utf-8")
                self.assertTrue(all(sign == "\n" or " " <= sign <= "~" for sign in text))
                self.assertLessEqual(len(text.splitlines()), 399)
                self.assertLessEqual(max(map(len, text.splitlines()), default=0), 120)

    def test_functions(self):
        for file in FILES:
            for node in ast.walk(tree(file)):
                if isinstance(node, ast.FunctionDef):
                    with self.subTest(f"{file.name} {node.name}"):
                        self.assertLessEqual(node.end_lineno - node.lineno + 1, 40)

    def test_imports(self):
        known = {name_of(file): defined_in(file) for file in FILES} | LIBRARY
        for file in FILES:
            for node in ast.walk(tree(file)):
                self.assertNotIsInstance(node, ast.Import)
                if isinstance(node, ast.ImportFrom):
                    for name in node.names:
                        with self.subTest(f"{file.name} {name.name}"):
                            self.assertIn(name.name, known.get(node.module, ()))
                            self.assertIsNone(name.asname)

    def test_builtins(self):
        barred = set(dir(builtins)) - BUILTINS - {"True", "False", "None"}
        for file in FILES:
            for node in ast.walk(tree(file)):
                if isinstance(node, ast.Name):
                    with self.subTest(f"{file.name} {node.lineno}"):
                        self.assertNotIn(node.id, barred)

    def test_local_names(self):
        for file in FILES:
            rows = tree(file).body
            taken = {row.name for row in rows if isinstance(row, ast.ClassDef)} | set(dir(builtins))
            taken |= {name.name for row in rows if isinstance(row, ast.ImportFrom) for name in row.names}
            for node in ast.walk(tree(file)):
                if isinstance(node, ast.arg):
                    self.assertNotIn(node.arg, taken, f"{file.name} {node.lineno}")
                elif isinstance(node, ast.Name) and isinstance(node.ctx, ast.Store):
                    self.assertNotIn(node.id, taken, f"{file.name} {node.lineno}")

    def test_names(self):
        for file in FILES:
            for node in ast.walk(tree(file)):
                names = [getattr(node, field, None) for field in ("id", "attr", "arg", "name")]
                for name in names:
                    if isinstance(name, str):
                        with self.subTest(f"{file.name} {name}"):
                            self.assertFalse(name.startswith(BARRED_BEGINNINGS))
                            self.assertNotIn(name, BARRED_NAMES)
                            self.assertRegex(name, "^(_?[A-Za-z][A-Za-z0-9_]*|_|__[a-z]+__)$")
            for word in BARRED_WORDS:
                self.assertNotRegex(file.read_text(encoding="utf-8"), rf"\b{word}\b")

    def test_methods_and_attributes(self):
        methods, attributes = set(), set()
        for file in FILES:
            for node in ast.walk(tree(file)):
                if isinstance(node, ast.ClassDef):
                    methods.update(row.name for row in node.body if isinstance(row, ast.FunctionDef))
                elif isinstance(node, ast.Attribute) and isinstance(node.ctx, ast.Store):
                    attributes.add(node.attr)
        self.assertEqual(methods & attributes, set())

    def test_what_is_iterated_at_once(self):
        # A house can be compared, and then `any`, `all` and their like take no generator expression.
        for file in FILES:
            for node in ast.walk(tree(file)):
                self.assertNotIsInstance(node, ast.GeneratorExp, f"{file.name}")

    def test_strings(self):
        for file in FILES:
            for node in ast.walk(tree(file)):
                if isinstance(node, ast.Constant) and isinstance(node.value, str):
                    self.assertNotIn("%", node.value)
                self.assertFalse(isinstance(node, ast.Constant) and isinstance(node.value, float))
                self.assertNotIsInstance(node, (ast.Global, ast.Div))


if __name__ == "__main__":
    unittest.main()
