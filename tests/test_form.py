"""The part of the language's rules that can be told from the package's files alone."""

import ast
import builtins
import re
import unittest
from pathlib import Path

PACKAGE = Path(__file__).resolve().parent.parent / "pilewheel"
FILES = sorted(PACKAGE.glob("*.py"))

STATEMENTS = (ast.Assign, ast.AugAssign, ast.If, ast.While, ast.For, ast.Return, ast.Break, ast.Continue,
              ast.Pass, ast.Raise, ast.Try, ast.Expr, ast.FunctionDef, ast.ClassDef, ast.ImportFrom)
LEFT_OUT = (ast.SetComp, ast.DictComp, ast.GeneratorExp, ast.NamedExpr, ast.Starred, ast.Div, ast.Set)
OWN_NAMES = """len range enumerate zip min max sum abs sorted reversed int str bool list tuple dict set
    frozenset isinstance ord repr any all divmod ValueError KeyError""".split()
METHODS = """append clear copy count endswith extend find get index insert isalnum isalpha isdigit islower
    isspace isupper items join keys ljust lower lstrip partition pop remove replace reverse rfind rjust
    rpartition rsplit rstrip setdefault split splitlines startswith strip update upper values zfill
    bit_length""".split()
WORDS_LEFT_OUT = """type typing typing_extensions enum Enum IntEnum StrEnum Flag IntFlag Generic Protocol ABC
    ABCMeta namedtuple NamedTuple TypedDict TYPE_CHECKING abstractmethod""".split()


def nodes():
    return [(path.name, node) for path in FILES for node in ast.walk(ast.parse(path.read_text()))]


class FormTest(unittest.TestCase):
    def test_the_package_holds_plain_files_alone(self):
        names = [path.name for path in PACKAGE.iterdir() if path.name != "__pycache__"]
        self.assertEqual(sorted(names), [path.name for path in FILES])
        self.assertIn("__init__.py", names)

    def test_signs_and_sizes(self):
        for path in FILES:
            rows = path.read_bytes().decode("ascii").split("\n")
            self.assertLessEqual(len(rows), 400, path.name)
            for row in rows:
                self.assertLessEqual(len(row), 120, path.name)
                self.assertTrue(all(" " <= sign <= "~" for sign in row), (path.name, row))

    def test_functions_are_small_and_plain(self):
        for name, node in nodes():
            if isinstance(node, ast.FunctionDef):
                self.assertLessEqual(node.end_lineno - node.lineno + 1, 40, (name, node.name))
                self.assertEqual(node.decorator_list, [], (name, node.name))
                self.assertIsNone(node.args.vararg or node.args.kwarg, (name, node.name))

    def test_statements_and_expressions(self):
        for name, node in nodes():
            place = (name, getattr(node, "lineno", None))
            if isinstance(node, ast.stmt):
                self.assertIsInstance(node, STATEMENTS, place)
            self.assertNotIsInstance(node, LEFT_OUT, place)
            if isinstance(node, (ast.While, ast.For)):
                self.assertEqual(node.orelse, [], place)
            if isinstance(node, ast.Assign):
                self.assertEqual(len(node.targets), 1, place)

    def test_comprehensions_have_one_walk(self):
        for name, node in nodes():
            if isinstance(node, ast.ListComp):
                self.assertEqual(len(node.generators), 1, (name, node.lineno))
                self.assertLessEqual(len(node.generators[0].ifs), 1, (name, node.lineno))

    def test_methods(self):
        for name, node in nodes():
            if isinstance(node, ast.Attribute):
                self.assertIn(node.attr, METHODS, (name, node.lineno))

    def test_words(self):
        for path in FILES:
            words = re.findall("[A-Za-z0-9_]+", path.read_text())
            self.assertEqual([word for word in words if word in WORDS_LEFT_OUT], [], path.name)

    def test_sets_are_not_kept(self):
        for name, node in nodes():
            for call in ast.iter_child_nodes(node):
                if isinstance(call, ast.Call) and isinstance(call.func, ast.Name) and call.func.id == "set":
                    self.assertTrue(isinstance(node, ast.Compare) or isinstance(node, ast.Call)
                                    and node.func.id in ("sorted", "len") and node.keywords == [], name)

    def test_names(self):
        for name, node in nodes():
            if isinstance(node, ast.Name):
                self.assertFalse(node.id.startswith("_"), (name, node.id))
                if hasattr(builtins, node.id):
                    self.assertIn(node.id, OWN_NAMES, name)
                    self.assertIsInstance(node.ctx, ast.Load, (name, node.id))

    def test_imports_are_from_the_very_file(self):
        for name, node in nodes():
            if isinstance(node, ast.ImportFrom):
                self.assertEqual(node.level, 0, name)
                package, _, module = node.module.partition(".")
                self.assertEqual(package, "pilewheel", name)
                top = ast.parse((PACKAGE / (module + ".py")).read_text()).body
                defined = [one.name for one in top if isinstance(one, (ast.FunctionDef, ast.ClassDef))]
                defined += [one.targets[0].id for one in top if isinstance(one, ast.Assign)]
                for drawn in node.names:
                    self.assertIn(drawn.name, defined, name)

    def test_no_two_files_draw_from_one_another(self):
        draws = {path.name: [] for path in FILES}
        for name, node in nodes():
            if isinstance(node, ast.ImportFrom):
                draws[node.module.partition(".")[2] + ".py"].append(name)
        # A file that nobody still left draws from can be put aside; a ring of files never can.
        while draws:
            free = [name for name in draws if not set(draws[name]) & set(draws)]
            self.assertNotEqual(free, [], draws)
            for name in free:
                draws.pop(name)


if __name__ == "__main__":
    unittest.main()
