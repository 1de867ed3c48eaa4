"""The form of the package's files: the rules of LANGUAGE.md that can be seen from a file's tree."""

import ast
import builtins
import pathlib
import re
import unittest

PACKAGE = pathlib.Path(__file__).resolve().parent.parent / "boilerplans"
FILES = sorted(PACKAGE.rglob("*.py"))

NODES = """Module Expr FunctionDef arguments arg Return ClassDef ImportFrom alias Assign AugAssign If While For Break
Continue Pass Raise Try ExceptHandler Call Name Attribute Subscript Slice Constant List Tuple Dict BinOp UnaryOp BoolOp
Compare IfExp ListComp comprehension Lambda keyword JoinedStr FormattedValue Load Store Add Sub Mult FloorDiv Mod Pow
BitAnd BitOr BitXor LShift RShift Invert USub UAdd Not And Or Eq NotEq Lt LtE Gt GtE Is IsNot In NotIn""".split()
BUILTINS = """len range enumerate zip min max sum abs sorted reversed int str bool list tuple dict set frozenset
isinstance ord repr any all divmod Exception ValueError TypeError KeyError IndexError LookupError ZeroDivisionError
ArithmeticError OverflowError RuntimeError NotImplementedError StopIteration""".split()
METHODS = """append clear copy count endswith extend find get index insert isalnum isalpha isdigit islower isspace isupper
items join keys ljust lower lstrip partition pop remove replace reverse rfind rjust rpartition rsplit rstrip setdefault
split splitlines startswith strip update upper values zfill bit_length""".split()
WORDS = """type typing typing_extensions enum Enum IntEnum StrEnum Flag IntFlag Generic Protocol ABC ABCMeta namedtuple
NamedTuple TypedDict TYPE_CHECKING abstractmethod""".split()
UNUSED = "register mro elements open input version_info with_traceback add_note format format_map".split()


def nodes(file, *kinds):
    return [node for node in ast.walk(ast.parse(file.read_text())) if isinstance(node, kinds)]


def own_methods():
    return {method.name for file in FILES for kind in nodes(file, ast.ClassDef)
            for method in kind.body if isinstance(method, ast.FunctionDef)}


class Form(unittest.TestCase):
    def test_the_package_holds_its_files_alone(self):
        there = [path for path in PACKAGE.rglob("*") if "__pycache__" not in path.parts and path.is_file()]
        self.assertEqual(sorted(there), FILES)
        self.assertIn(PACKAGE / "__init__.py", FILES)
        self.assertIn(PACKAGE / "desk.py", FILES)

    def test_sizes_and_signs(self):
        for file in FILES:
            with self.subTest(file=file.name):
                lines = file.read_text().split("\n")
                self.assertLessEqual(len(lines), 400)
                self.assertEqual([row for row in lines if len(row) > 120 or re.search("[^ -~]", row)], [])
                for node in nodes(file, ast.FunctionDef):
                    self.assertLessEqual(node.end_lineno - node.lineno + 1, 40, node.name)

    def test_words(self):
        for file in FILES:
            with self.subTest(file=file.name):
                text = file.read_text()
                self.assertEqual([word for word in re.findall(r"\w+", text) if word in WORDS], [])
                self.assertIsNone(re.search("dataclass|overload|contextmanager", text))

    def test_statements_and_expressions(self):
        for file in FILES:
            with self.subTest(file=file.name):
                self.assertEqual({type(node).__name__ for node in nodes(file, ast.AST)} - set(NODES), set())
                for node in nodes(file, ast.Assign):
                    self.assertEqual(len(node.targets), 1)
                    self.assertNotIsInstance(node.targets[0], (ast.Tuple, ast.List))
                for node in nodes(file, ast.For, ast.While):
                    self.assertEqual(node.orelse, [])
                for node in nodes(file, ast.ListComp):
                    self.assertEqual(len(node.generators), 1)
                    self.assertLessEqual(len(node.generators[0].ifs), 1)
                for node in nodes(file, ast.Constant):
                    self.assertIn(type(node.value), (int, str, bool, type(None)))
                    self.assertFalse(isinstance(node.value, str) and "%" in node.value)
                for node in nodes(file, ast.Compare):
                    if any(isinstance(sign, (ast.Is, ast.IsNot)) for sign in node.ops):
                        self.assertIn(ast.unparse(node.comparators[0]), ("None", "True", "False"))

    def test_functions_and_classes(self):
        for file in FILES:
            with self.subTest(file=file.name):
                for node in nodes(file, ast.FunctionDef):
                    given = node.args
                    self.assertEqual((node.decorator_list, given.vararg, given.kwarg, given.kwonlyargs, given.posonlyargs),
                                     ([], None, None, [], []))
                for node in nodes(file, ast.ClassDef):
                    self.assertEqual((node.decorator_list, node.keywords), ([], []))
                    self.assertLessEqual(len(node.bases), 1)

    def test_imports(self):
        for file in FILES:
            with self.subTest(file=file.name):
                for node in nodes(file, ast.ImportFrom):
                    self.assertEqual(node.level, 0)
                    source = PACKAGE / (node.module.removeprefix("boilerplans.") + ".py")
                    self.assertIn(source, FILES)
                    top = ast.parse(source.read_text()).body
                    bound = {item.name for item in top if isinstance(item, (ast.FunctionDef, ast.ClassDef))}
                    bound |= {item.targets[0].id for item in top if isinstance(item, ast.Assign)}
                    for drawn in node.names:
                        self.assertIn(drawn.name, bound)
                        self.assertIsNone(drawn.asname)

    def test_the_top_of_a_file(self):
        for file in FILES:
            with self.subTest(file=file.name):
                top = ast.parse(file.read_text()).body
                kinds = (ast.ImportFrom, ast.FunctionDef, ast.ClassDef, ast.Assign)
                self.assertIsInstance(top[0].value.value, str)
                self.assertEqual([node for node in top[1:] if not isinstance(node, kinds)], [])
                bound = [node.name for node in top if isinstance(node, (ast.FunctionDef, ast.ClassDef))]
                bound += [node.targets[0].id for node in top if isinstance(node, ast.Assign)]
                self.assertEqual(len(bound), len(set(bound)))
                defs = [node.name for node in top if isinstance(node, ast.FunctionDef)]
                plain = (ast.Constant, ast.Tuple, ast.List, ast.Dict, ast.UnaryOp, ast.USub, ast.Load)
                for node in [part for item in top if isinstance(item, ast.Assign) for part in ast.walk(item.value)]:
                    self.assertTrue(isinstance(node, plain) or node.id in defs, ast.dump(node))

    def test_names(self):
        for file in FILES:
            with self.subTest(file=file.name):
                tree = ast.parse(file.read_text())
                drawn = {alias.name for node in nodes(file, ast.ImportFrom) for alias in node.names}
                taken = drawn | {node.name for node in tree.body if isinstance(node, (ast.FunctionDef, ast.ClassDef))}
                locals_ = {node.id for node in nodes(file, ast.Name) if isinstance(node.ctx, ast.Store)}
                locals_ |= {node.arg for node in nodes(file, ast.arg)}
                self.assertEqual(locals_ & (taken | set(dir(builtins))), set())
                read = {node.id for node in nodes(file, ast.Name) if isinstance(node.ctx, ast.Load)}
                self.assertEqual((read & set(dir(builtins))) - set(BUILTINS), set())
                self.assertEqual(read - locals_ - taken - set(BUILTINS), set())
                self.assertEqual([name for name in read | locals_ if name.startswith("_") or name in UNUSED], [])

    def test_methods(self):
        own = own_methods()
        for file in FILES:
            with self.subTest(file=file.name):
                for node in nodes(file, ast.Call):
                    if isinstance(node.func, ast.Attribute):
                        self.assertIn(node.func.attr, own | set(METHODS))
                given = {node.attr for node in nodes(file, ast.Attribute) if isinstance(node.ctx, ast.Store)}
                python = {name for kind in (str, int, list, dict, set, bytes) for name in dir(kind)}
                self.assertEqual(given & (own | python | set(UNUSED)), set())


if __name__ == "__main__":
    unittest.main()
