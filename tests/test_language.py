"""The rules of the language that can be seen file by file: sizes, signs, imports and names."""

import ast
import builtins
import pathlib
import re
import unittest

PACKAGE = pathlib.Path(__file__).resolve().parent.parent / "scopefree"
FILES = sorted(PACKAGE.rglob("*.py"))
LIBRARY = {
    "heapq": {"heappush", "heappop", "heapify", "heapreplace", "heappushpop"},
    "math": {"gcd", "lcm", "isqrt", "comb", "perm", "factorial"},
    "itertools": {
        "product", "combinations", "permutations", "chain", "accumulate", "pairwise", "islice",
        "zip_longest",
    },
    "collections": {"defaultdict", "deque"},
}
BUILTINS = set(
    "len range enumerate zip min max sum abs sorted reversed int str bool bytes list tuple dict "
    "set frozenset isinstance ord repr any all divmod pow Exception ValueError TypeError KeyError "
    "IndexError LookupError ZeroDivisionError ArithmeticError OverflowError RuntimeError "
    "NotImplementedError AttributeError StopIteration NotImplemented super map".split()
)
BARRED = {"register", "mro", "elements", "open", "input", "law", "version_info"}
WORDS = {
    "typing", "enum", "Enum", "Generic", "Protocol", "ABC", "namedtuple", "dataclass", "overload",
    "contextmanager", "abstractmethod",
}


def names_of(tree):
    """Every name that a file gives or uses: variables, functions, classes, arguments, attributes."""
    for node in ast.walk(tree):
        for field in ("id", "name", "arg", "attr"):
            if isinstance(getattr(node, field, None), str):
                yield getattr(node, field)


class Language(unittest.TestCase):
    def each(self):
        for file in FILES:
            source = file.read_text(encoding="utf-8")
            yield file.name, source, ast.parse(source)

    def test_sizes(self):
        for name, source, tree in self.each():
            rows = source.split("\n")
            self.assertLessEqual(len(rows), 399, name)
            self.assertLessEqual(max(map(len, rows)), 120, name)
            for node in ast.walk(tree):
                if isinstance(node, ast.FunctionDef):
                    self.assertLessEqual(node.end_lineno - node.lineno + 1, 40, node.name)

    def test_signs(self):
        for name, source, tree in self.each():
            self.assertTrue(all(sign == "\n" or " " <= sign <= "~" for sign in source), name)
            for node in ast.walk(tree):
                if isinstance(node, ast.Constant) and isinstance(node.value, str):
                    self.assertNotIn("%", node.value, name)

    def test_imports(self):
        for name, _, tree in self.each():
            for node in ast.walk(tree):
                self.assertNotIsInstance(node, ast.Import, name)
                if isinstance(node, ast.ImportFrom):
                    self.assertEqual(node.level, 0, name)
                    names = {alias.name for alias in node.names}
                    self.assertNotIn("*", names)
                    if node.module.split(".")[0] != "scopefree":
                        self.assertLessEqual(names, LIBRARY.get(node.module, set()), name)

    def test_names(self):
        for name, _, tree in self.each():
            for word in names_of(tree):
                self.assertNotIn(word, BARRED, name)
                if word.startswith("__"):
                    self.assertTrue(word.endswith("__"), word)
                if hasattr(builtins, word) and not word.startswith("__"):
                    self.assertIn(word, BUILTINS, name)

    def test_words(self):
        for name, source, _ in self.each():
            self.assertEqual(WORDS & set(re.findall(r"\w+", source)), set(), name)

    def test_statements(self):
        for name, _, tree in self.each():
            for node in ast.walk(tree):
                self.assertNotIsInstance(node, (ast.AsyncFunctionDef, ast.Global, ast.Div), name)
                if isinstance(node, ast.Constant):
                    self.assertNotIsInstance(node.value, (float, complex), name)


if __name__ == "__main__":
    unittest.main()
