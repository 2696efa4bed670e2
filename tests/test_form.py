"""The form of the package's files: the rules of the small part of Python that can be seen in a file's tree."""

import ast
import builtins
import os
import re
import unittest

PACKAGE = os.path.join(os.path.dirname(os.path.dirname(os.path.abspath(__file__))), "lanemachine")

STATEMENTS = (ast.Assign, ast.AugAssign, ast.If, ast.While, ast.For, ast.Return, ast.Break, ast.Continue, ast.Pass,
              ast.Raise, ast.Try, ast.Expr, ast.FunctionDef, ast.ClassDef, ast.ImportFrom)
BANNED_NODES = (ast.Set, ast.SetComp, ast.DictComp, ast.GeneratorExp, ast.NamedExpr, ast.Starred, ast.Div,
                ast.Await, ast.Yield, ast.YieldFrom)
OWN_NAMES = set("""len range enumerate zip min max sum abs sorted reversed int str bool list tuple dict set frozenset
    isinstance ord repr any all divmod Exception ValueError TypeError KeyError IndexError LookupError
    ZeroDivisionError ArithmeticError OverflowError RuntimeError NotImplementedError AttributeError
    StopIteration""".split())
METHODS = set("""append clear copy count endswith extend find get index insert isalnum isalpha isdigit islower isspace
    isupper items join keys ljust lower lstrip partition pop remove replace reverse rfind rjust rpartition rsplit
    rstrip setdefault split splitlines startswith strip update upper values zfill bit_length""".split())
BANNED_NAMES = set("""register mro elements open input version_info with_traceback add_note attrgetter breakpoint
    builtins compile copyright credits delattr dir eval exec exit gc getattr globals hasattr help id importlib
    license locals methodcaller os quit setattr super type vars sys""".split())
BANNED_WORDS = """type typing typing_extensions enum Enum IntEnum StrEnum Flag IntFlag Generic Protocol ABC ABCMeta
    namedtuple NamedTuple TypedDict TYPE_CHECKING abstractmethod""".split()


def sources():
    found = {}
    for name in sorted(os.listdir(PACKAGE)):
        if name != "__pycache__":
            with open(os.path.join(PACKAGE, name), encoding="ascii") as file:
                found[name] = file.read()
    return found


def bound_names(tree):
    for node in ast.walk(tree):
        if isinstance(node, (ast.FunctionDef, ast.ClassDef)):
            yield node.name
        elif isinstance(node, ast.arg):
            yield node.arg
        elif isinstance(node, ast.Name) and isinstance(node.ctx, ast.Store):
            yield node.id
        elif isinstance(node, ast.ExceptHandler) and node.name:
            yield node.name


class TestForm(unittest.TestCase):
    def setUp(self):
        self.texts = sources()
        self.trees = {name: ast.parse(text) for name, text in self.texts.items()}

    def nodes(self, kind):
        return [(name, node) for name, tree in self.trees.items() for node in ast.walk(tree) if isinstance(node, kind)]

    def test_files(self):
        for name in self.texts:
            self.assertRegex(name, r"^(__init__|[a-z][a-z0-9_]*)\.py$")
            self.assertNotIn(name[:-3], dir(builtins))

    def test_signs_and_sizes(self):
        for name, text in self.texts.items():
            lines = text.split("\n")
            self.assertLessEqual(len(lines), 401, name)
            for line in lines:
                self.assertLessEqual(len(line), 120, (name, line))
                self.assertRegex(line, r"^[ -~]*$", name)
        for name, node in self.nodes(ast.FunctionDef):
            self.assertLessEqual(node.end_lineno - node.lineno + 1, 40, (name, node.name))

    def test_statements_and_expressions(self):
        for name, node in self.nodes(ast.stmt):
            self.assertIsInstance(node, STATEMENTS, (name, node.lineno))
        for name, node in self.nodes(BANNED_NODES):
            self.fail((name, ast.dump(node)))
        for name, node in self.nodes((ast.For, ast.While)):
            self.assertEqual(node.orelse, [], (name, node.lineno))
        for name, node in self.nodes(ast.Assign):
            self.assertEqual(len(node.targets), 1, (name, node.lineno))
            self.assertNotIsInstance(node.targets[0], ast.Tuple, (name, node.lineno))
        for name, node in self.nodes(ast.Constant):
            self.assertIsInstance(node.value, (int, str, type(None)), (name, node.lineno))
        for name, node in self.nodes(ast.FunctionDef):
            self.assertEqual((node.decorator_list, node.args.vararg, node.args.kwarg, node.args.kwonlyargs),
                             ([], None, None, []), (name, node.name))

    def test_texts_have_no_percent_sign(self):
        for name, node in self.nodes(ast.Constant):
            if isinstance(node.value, str):
                self.assertNotIn("%", node.value, name)

    def test_imports(self):
        for name, node in self.nodes(ast.ImportFrom):
            self.assertEqual(node.level, 0, name)
            self.assertRegex(node.module, r"^lanemachine\.[a-z]+$", name)
            defined = set(bound_names(self.trees[node.module.split(".")[1] + ".py"]))
            for alias in node.names:
                self.assertIn(alias.name, defined, name)
                self.assertIsNone(alias.asname, name)

    def test_names(self):
        for name, tree in self.trees.items():
            for bound in bound_names(tree):
                if bound != "__init__":
                    self.assertRegex(bound, r"^[A-Za-z][A-Za-z0-9_]*$", name)
                self.assertNotIn(bound, set(dir(builtins)) | BANNED_NAMES, name)
        for name, node in self.nodes(ast.Name):
            if node.id in dir(builtins):
                self.assertIn(node.id, OWN_NAMES, name)
        for name, node in self.nodes(ast.Attribute):
            self.assertNotIn(node.attr, BANNED_NAMES, name)

    def test_words_that_stand_nowhere(self):
        for name, text in self.texts.items():
            for word in BANNED_WORDS:
                self.assertIsNone(re.search(rf"\b{word}\b", text), (name, word))
            for word in ["dataclass", "overload", "contextmanager"]:
                self.assertNotIn(word, text, name)

    def test_methods_and_values(self):
        own = {node.name for name, node in self.nodes(ast.FunctionDef)}
        called = [node.func.attr for name, node in self.nodes(ast.Call) if isinstance(node.func, ast.Attribute)]
        for method in called:
            self.assertIn(method, METHODS | own)
        methods = {part.name for name, node in self.nodes(ast.ClassDef) for part in node.body
                   if isinstance(part, ast.FunctionDef)}
        values = {node.attr for name, node in self.nodes(ast.Attribute) if isinstance(node.ctx, ast.Store)}
        self.assertEqual(methods & values, set())

    def test_tops_of_files(self):
        for name, tree in self.trees.items():
            bound = []
            for node in tree.body:
                self.assertIsInstance(node, (ast.Expr, ast.ImportFrom, ast.Assign, ast.FunctionDef, ast.ClassDef), name)
                bound += [node.targets[0].id] if isinstance(node, ast.Assign) else []
                bound += [node.name] if isinstance(node, (ast.FunctionDef, ast.ClassDef)) else []
            self.assertEqual(len(bound), len(set(bound)), name)


if __name__ == "__main__":
    unittest.main()
