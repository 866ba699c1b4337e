"""The package keeps to the small part of Python that it is written in, as far as a walk through its code can tell."""

import ast
import builtins
import pathlib
import re
import unittest

PACKAGE = pathlib.Path(__file__).resolve().parent.parent / "lossbook"
FILES = sorted(path for path in PACKAGE.rglob("*") if "__pycache__" not in path.parts)

STATEMENTS = (ast.FunctionDef, ast.ClassDef, ast.ImportFrom, ast.Assign, ast.AugAssign, ast.If, ast.While, ast.For,
              ast.Return, ast.Break, ast.Continue, ast.Pass, ast.Raise, ast.Expr)
EXPRESSIONS = (ast.Constant, ast.Name, ast.List, ast.Tuple, ast.Dict, ast.BinOp, ast.UnaryOp, ast.BoolOp, ast.Compare,
               ast.IfExp, ast.Call, ast.Attribute, ast.Subscript, ast.Slice, ast.ListComp)
BUILT_INS = """len range enumerate zip min max sum abs sorted reversed int str bool list tuple dict set isinstance ord repr
    any all divmod""".split()
METHODS = """append clear copy count endswith extend find get index insert items join keys pop remove replace reverse
    setdefault split startswith strip update values""".split()
WORDS = """type typing typing_extensions enum Enum IntEnum StrEnum Flag IntFlag Generic Protocol ABC ABCMeta namedtuple
    NamedTuple TypedDict TYPE_CHECKING abstractmethod""".split()
UNUSED_NAMES = """register mro elements open input version_info with_traceback add_note attrgetter breakpoint builtins
    compile copyright credits delattr dir eval exec exit gc getattr globals hasattr help id importlib license locals
    methodcaller os quit setattr super vars sys""".split()
VALUES_OF_PYTHON = {name for kind in (str, int, list, dict, set, bytes) for name in dir(kind)}


def trees():
    for path in FILES:
        yield path, ast.parse(path.read_text(encoding="utf-8"))


def nodes(kind):
    for path, tree in trees():
        for node in ast.walk(tree):
            if isinstance(node, kind):
                yield path.name, node


class Language(unittest.TestCase):
    def test_files(self):
        self.assertIn("house.py", [path.name for path in FILES])
        self.assertIn("__init__.py", [path.name for path in FILES])
        for path in FILES:
            self.assertTrue(path.is_file() and re.fullmatch(r"[a-z0-9_]+\.py", path.name), path)
            self.assertNotIn(path.stem, dir(builtins))

    def test_signs_and_sizes(self):
        for path in FILES:
            text = path.read_text(encoding="utf-8")
            lines = text.splitlines()
            self.assertRegex(text, r"\A[ -~\n]*\Z", path)
            self.assertLessEqual(len(lines), 400, path)
            self.assertLessEqual(max(len(line) for line in lines), 120, path)

    def test_words_that_stand_nowhere(self):
        for path in FILES:
            text = path.read_text(encoding="utf-8")
            self.assertEqual([word for word in WORDS if re.search(r"\b" + word + r"\b", text)], [], path)
            self.assertNotRegex(text, "dataclass|overload|contextmanager")

    def test_the_top_of_a_file(self):
        for path, tree in trees():
            self.assertIsNotNone(ast.get_docstring(tree), path)
            bound = []
            for node in tree.body[1:]:
                self.assertIsInstance(node, (ast.ImportFrom, ast.FunctionDef, ast.ClassDef, ast.Assign), path)
                if isinstance(node, ast.Assign):
                    ast.literal_eval(node.value)
                    bound += [target.id for target in node.targets]
                elif isinstance(node, ast.ImportFrom):
                    bound += [alias.name for alias in node.names]
                else:
                    bound.append(node.name)
            self.assertEqual(len(bound), len(set(bound)), path)

    def test_imports_come_from_the_file_that_defines_the_name(self):
        drawn = {}
        for path, tree in trees():
            drawn[path.stem] = []
            for node in ast.walk(tree):
                if isinstance(node, ast.ImportFrom):
                    self.assertRegex(node.module, r"\Alossbook\.[a-z0-9_]+\Z")
                    self.assertEqual([alias.asname for alias in node.names], [None] * len(node.names))
                    stem = node.module.split(".")[1]
                    drawn[path.stem].append(stem)
                    source = (PACKAGE / (stem + ".py")).read_text(encoding="utf-8")
                    for alias in node.names:
                        self.assertRegex(source, r"(?m)^((def|class) " + alias.name + r"\b|" + alias.name + " =)")
        while drawn:
            free = [stem for stem in drawn if not set(drawn[stem]) & set(drawn)]
            self.assertNotEqual(free, [], "files that draw from one another")
            for stem in free:
                del drawn[stem]

    def test_statements_and_expressions(self):
        for name, node in nodes((ast.stmt, ast.expr)):
            allowed = STATEMENTS if isinstance(node, ast.stmt) else EXPRESSIONS
            self.assertIsInstance(node, allowed, (name, node.lineno))

    def test_assignments_have_one_target(self):
        for name, node in nodes(ast.Assign):
            self.assertEqual(len(node.targets), 1, (name, node.lineno))
            self.assertIsInstance(node.targets[0], (ast.Name, ast.Attribute, ast.Subscript), (name, node.lineno))

    def test_loops_have_no_else_and_comprehensions_one_for(self):
        for name, node in nodes((ast.For, ast.While)):
            self.assertEqual(node.orelse, [], (name, node.lineno))
        for name, node in nodes(ast.ListComp):
            self.assertEqual(len(node.generators), 1, (name, node.lineno))
            self.assertLessEqual(len(node.generators[0].ifs), 1, (name, node.lineno))

    def test_functions(self):
        for name, node in nodes(ast.FunctionDef):
            self.assertLessEqual(node.end_lineno - node.lineno + 1, 40, (name, node.name))
            self.assertEqual(node.decorator_list, [], (name, node.name))
            told = node.args
            self.assertEqual([told.vararg, told.kwarg, told.kwonlyargs, told.posonlyargs, node.returns],
                             [None, None, [], [], None], (name, node.name))
            self.assertEqual([argument.annotation for argument in told.args], [None] * len(told.args))

    def test_constants(self):
        for name, node in nodes(ast.Constant):
            self.assertIn(type(node.value), (int, str, bool, type(None)), (name, node.lineno))
        for name, node in nodes(ast.BinOp):
            self.assertNotIsInstance(node.op, (ast.Div, ast.MatMult, ast.Pow), (name, node.lineno))

    def test_is_stands_beside_none_alone(self):
        for name, node in nodes(ast.Compare):
            if any(isinstance(op, (ast.Is, ast.IsNot)) for op in node.ops):
                self.assertTrue(len(node.ops) == 1 and node.comparators[0].value is None, (name, node.lineno))

    def test_names(self):
        for name, node in nodes(ast.Name):
            self.assertRegex(node.id, r"\A[A-Za-z][A-Za-z0-9_]*\Z", (name, node.lineno))
            self.assertNotIn(node.id, UNUSED_NAMES, (name, node.lineno))
            if node.id in dir(builtins):
                self.assertIn(node.id, BUILT_INS, (name, node.lineno))
                self.assertIsInstance(node.ctx, ast.Load, (name, node.lineno))
        for name, node in nodes(ast.arg):
            self.assertNotIn(node.arg, dir(builtins), (name, node.lineno))

    def test_locals_are_not_called_like_a_class_or_an_import(self):
        for path, tree in trees():
            taken = {node.name for node in tree.body if isinstance(node, (ast.ClassDef, ast.FunctionDef))}
            taken |= {alias.name for node in tree.body if isinstance(node, ast.ImportFrom) for alias in node.names}
            for node in ast.walk(tree):
                if isinstance(node, ast.Name) and isinstance(node.ctx, ast.Store):
                    self.assertNotIn(node.id, taken, (path.name, node.lineno))
                if isinstance(node, ast.arg):
                    self.assertNotIn(node.arg, taken, (path.name, node.lineno))

    def test_methods_and_values_of_objects(self):
        for path, tree in trees():
            called = {id(node.func) for node in ast.walk(tree) if isinstance(node, ast.Call)}
            for node in ast.walk(tree):
                if isinstance(node, ast.Attribute) and id(node) in called:
                    self.assertIn(node.attr, METHODS, (path.name, node.lineno))
                elif isinstance(node, ast.Attribute):
                    self.assertNotIn(node.attr, VALUES_OF_PYTHON, (path.name, node.lineno))
                    self.assertNotIn(node.attr, UNUSED_NAMES, (path.name, node.lineno))

    def test_views_are_walked_on_the_spot(self):
        for path, tree in trees():
            walked = [node.iter for node in ast.walk(tree) if isinstance(node, (ast.For, ast.comprehension))]
            for node in ast.walk(tree):
                if isinstance(node, ast.Call):
                    named = node.func.id if isinstance(node.func, ast.Name) else getattr(node.func, "attr", "")
                    if named in ("zip", "enumerate", "reversed", "range", "items", "keys", "values"):
                        self.assertIn(node, walked, (path.name, node.lineno))


if __name__ == "__main__":
    unittest.main()
