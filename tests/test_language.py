"""Holds the package's files against those rules of LANGUAGE.md that can be seen in their text."""

import ast
import builtins
import pathlib
import re
import unittest

PACKAGE = pathlib.Path(__file__).resolve().parent.parent / "likehalves"
ERRORS = """Exception ValueError TypeError KeyError IndexError LookupError ZeroDivisionError ArithmeticError
    OverflowError RuntimeError NotImplementedError AttributeError StopIteration""".split()
CALLED = """len range enumerate zip min max sum abs sorted reversed int str bool list tuple dict set frozenset
    isinstance ord repr any all divmod""".split()
METHODS = """append clear copy count endswith extend find get index insert isalnum isalpha isdigit islower isspace
    isupper items join keys ljust lower lstrip partition pop remove replace reverse rfind rjust rpartition rsplit
    rstrip setdefault split splitlines startswith strip update upper values zfill bit_length""".split()
WORDS = """type typing typing_extensions enum Enum IntEnum StrEnum Flag IntFlag Generic Protocol ABC ABCMeta
    namedtuple NamedTuple TypedDict TYPE_CHECKING abstractmethod""".split()
WITHIN_WORDS = ["dataclass", "overload", "contextmanager"]
NEVER = ["register", "mro", "elements", "open", "input", "version_info", "with_traceback", "add_note", "format",
         "format_map"]
TWO_UNDERSCORES = ["__init__", "__eq__", "__repr__", "__str__", "__len__"]
STATEMENTS = (ast.Module, ast.ImportFrom, ast.FunctionDef, ast.ClassDef, ast.Assign, ast.AugAssign, ast.If, ast.While,
              ast.For, ast.Return, ast.Break, ast.Continue, ast.Pass, ast.Raise, ast.Try, ast.Expr)
EXPRESSIONS = (ast.Constant, ast.List, ast.Tuple, ast.Dict, ast.Set, ast.BinOp, ast.UnaryOp, ast.BoolOp, ast.Compare,
               ast.IfExp, ast.Call, ast.Attribute, ast.Subscript, ast.Slice, ast.ListComp, ast.JoinedStr,
               ast.FormattedValue, ast.Lambda, ast.Name)
LAZY = ["zip", "enumerate", "reversed", "range"]
ASKED_KINDS = ["int", "str", "bool", "list", "tuple", "dict"]
PYTHONS_OWN = sorted({name for each in ("", 0, [], (), {}, set(), b"") for name in dir(each)})


def files():
    return sorted(path for path in PACKAGE.rglob("*") if "__pycache__" not in path.parts)


def nodes(kinds):
    for path in files():
        for node in ast.walk(ast.parse(path.read_text())):
            if isinstance(node, kinds):
                yield path.name, node


def bound_names(node):
    if isinstance(node, ast.arg):
        return [node.arg]
    if isinstance(node, ast.Name) and isinstance(node.ctx, ast.Store):
        return [node.id]
    if isinstance(node, (ast.FunctionDef, ast.ClassDef)):
        return [node.name]
    if isinstance(node, ast.ExceptHandler) and node.name:
        return [node.name]
    return []


class LanguageTest(unittest.TestCase):
    def test_files(self):
        self.assertTrue(files())
        for path in files():
            self.assertRegex(path.name, r"\A(__init__|__main__|[a-z][a-z0-9_]*)\.py\Z", "L1, L14")
            self.assertNotIn(path.stem, dir(builtins), "L14")

    def test_signs_and_lines(self):
        for path in files():
            text = path.read_bytes().decode("utf-8")
            self.assertRegex(text, r"\A[\n -~]*\Z", f"L14: {path.name}")
            rows = text.split("\n")
            self.assertLessEqual(len(rows), 400, f"L10: {path.name}")
            self.assertLessEqual(max(len(row) for row in rows), 120, f"L10: {path.name}")
            for word in re.findall(r"\w+", text):
                self.assertNotIn(word, WORDS, f"L17: {path.name}")
            for piece in WITHIN_WORDS:
                self.assertNotIn(piece, text, f"L17: {path.name}")

    def test_the_top_of_a_file(self):
        for path in files():
            tree = ast.parse(path.read_text())
            self.assertTrue(ast.get_docstring(tree), f"L3: {path.name}")
            names = [name for node in tree.body for name in bound_names(node)]
            self.assertEqual(len(names), len(set(names)), f"L15: {path.name}")
            for node in tree.body[1:]:
                self.assertIsInstance(node, (ast.ImportFrom, ast.FunctionDef, ast.ClassDef, ast.Assign), "L3")

    def test_imports(self):
        drawn = {}
        for name, node in nodes((ast.Import, ast.ImportFrom)):
            self.assertIsInstance(node, ast.ImportFrom, f"L16: {name}")
            self.assertRegex(node.module, r"\Alikehalves\.\w+\Z", f"L2: {name}")
            self.assertEqual(node.level, 0, f"L2: {name}")
            source = PACKAGE / (node.module.split(".")[1] + ".py")
            defined = [made for each in ast.parse(source.read_text()).body for made in bound_names(each)]
            for alias in node.names:
                self.assertIn(alias.name, defined, f"L16: {name}")
            drawn.setdefault(name, []).append(source.name)
        for name in drawn:
            reached = list(drawn[name])
            for each in reached:
                reached.extend(more for more in drawn.get(each, []) if more not in reached)
            self.assertNotIn(name, reached, "L16: a ring of imports")

    def test_functions(self):
        for name, node in nodes((ast.FunctionDef, ast.Lambda)):
            where = f"{name}:{node.lineno}"
            given = node.args
            self.assertFalse(given.vararg or given.kwarg or given.kwonlyargs or given.posonlyargs, f"L4: {where}")
            if isinstance(node, ast.FunctionDef):
                self.assertFalse(node.decorator_list, f"L4: {where}")
                self.assertLessEqual(node.end_lineno - node.lineno + 1, 40, f"L10: {where}")

    def test_classes(self):
        for name, node in nodes(ast.ClassDef):
            where = f"{name}:{node.lineno}"
            self.assertFalse(node.decorator_list or node.keywords, f"L5: {where}")
            self.assertLessEqual(len(node.bases), 1, f"L5: {where}")
            for each in node.body:
                self.assertIsInstance(each, (ast.FunctionDef, ast.Pass), f"L5: {where}")

    def test_statements_and_expressions(self):
        for name, node in nodes((ast.stmt, ast.expr)):
            where = f"{name}:{node.lineno}"
            self.assertIsInstance(node, STATEMENTS + EXPRESSIONS, f"L6, L7: {where}")
            if isinstance(node, (ast.FunctionDef, ast.ClassDef)):
                for each in node.body:
                    if isinstance(each, ast.Expr):
                        self.assertIsInstance(each.value, ast.Call, f"L6: {where}")
            if isinstance(node, (ast.For, ast.While)):
                self.assertFalse(node.orelse, f"L6: {where}")
            if isinstance(node, ast.Try):
                self.assertFalse(node.finalbody, f"L6: {where}")
                self.assertTrue(all(handler.type for handler in node.handlers), f"L6: {where}")
            if isinstance(node, ast.Assign):
                self.assertEqual(len(node.targets), 1, f"L6: {where}")
            if isinstance(node, ast.ListComp):
                self.assertEqual(len(node.generators), 1, f"L7: {where}")
                self.assertLessEqual(len(node.generators[0].ifs), 1, f"L7: {where}")
            if isinstance(node, ast.Constant):
                self.assertIn(type(node.value), (int, str, bool, type(None)), f"L7: {where}")
                self.assertNotIn("%", str(node.value), f"L27: {where}")
            if isinstance(node, (ast.BinOp, ast.AugAssign)):
                self.assertNotIsInstance(node.op, (ast.Div, ast.MatMult), f"L7: {where}")
            if isinstance(node, ast.BinOp) and isinstance(node.op, ast.Pow):
                self.assertIsInstance(node.right, ast.Constant, f"L27: {where}")
            if isinstance(node, ast.Compare) and any(isinstance(op, (ast.Is, ast.IsNot)) for op in node.ops):
                self.assertIsInstance(node.comparators[0], ast.Constant, f"L20: {where}")

    def test_names(self):
        own = [made for name, node in nodes((ast.FunctionDef, ast.ClassDef)) for made in bound_names(node)]
        for name, node in nodes((ast.arg, ast.Name, ast.FunctionDef, ast.ClassDef, ast.ExceptHandler)):
            for made in bound_names(node):
                where = f"{name}:{node.lineno}: {made}"
                if made not in TWO_UNDERSCORES:
                    self.assertRegex(made, r"\A[A-Za-z][A-Za-z0-9_]*\Z", f"L12: {where}")
                self.assertNotIn(made, NEVER, f"L17: {where}")
                if isinstance(node, (ast.arg, ast.Name)):
                    self.assertNotIn(made, dir(builtins), f"L15: {where}")
            if isinstance(node, ast.Name) and isinstance(node.ctx, ast.Load) and node.id in dir(builtins):
                self.assertIn(node.id, CALLED + ERRORS, f"L8: {name}:{node.lineno}")
        for name, node in nodes(ast.Attribute):
            where = f"{name}:{node.lineno}: {node.attr}"
            self.assertNotIn(node.attr, NEVER, f"L8, L17: {where}")
            if isinstance(node.value, ast.Name) and node.value.id == "self":
                continue
            self.assertIn(node.attr, METHODS + own, f"L25: {where}")

    def test_methods_and_values_of_objects(self):
        methods = [each.name for name, node in nodes(ast.ClassDef) for each in node.body
                   if isinstance(each, ast.FunctionDef)]
        values = [node.attr for name, node in nodes(ast.Attribute) if isinstance(node.ctx, ast.Store)]
        self.assertEqual(set(methods) & set(values), set(), "L18")
        for name in [each for each in methods + values if each not in TWO_UNDERSCORES]:
            self.assertNotIn(name, PYTHONS_OWN, "L26")
        for name, node in nodes(ast.ClassDef):
            own = [each.name for each in node.body if isinstance(each, ast.FunctionDef)]
            self.assertEqual(len(own), len(set(own)), f"L18: {name}:{node.lineno}")
        for name, node in nodes(ast.FunctionDef):
            if node.name == "__init__":
                self.assertFalse([each for each in ast.walk(node) if isinstance(each, ast.Return)], f"L28: {name}")

    def test_imports_and_classes_keep_their_names(self):
        for path in files():
            tree = ast.parse(path.read_text())
            taken = [alias.asname or alias.name for node in tree.body if isinstance(node, ast.ImportFrom)
                     for alias in node.names]
            taken += [node.name for node in tree.body if isinstance(node, ast.ClassDef)]
            for node in ast.walk(tree):
                if isinstance(node, (ast.arg, ast.Name)):
                    for made in bound_names(node):
                        self.assertNotIn(made, taken, f"L15: {path.name}:{node.lineno}")

    def test_calls(self):
        for name, node in nodes(ast.Call):
            where = f"{name}:{node.lineno}"
            self.assertFalse(node.keywords, f"L22, and narrower than it: {where}")
            if isinstance(node.func, ast.Name) and node.func.id == "isinstance":
                kinds = node.args[1].elts if isinstance(node.args[1], ast.Tuple) else [node.args[1]]
                for kind in kinds:
                    self.assertIn(kind.id, ASKED_KINDS, f"L22: {where}")

    def test_functions_of_python_are_called_where_they_stand(self):
        for path in files():
            tree = ast.parse(path.read_text())
            fine = [id(node.func) for node in ast.walk(tree) if isinstance(node, ast.Call)]
            for node in ast.walk(tree):
                if isinstance(node, ast.Call) and isinstance(node.func, ast.Name) and node.func.id == "isinstance":
                    fine += [id(each) for each in ast.walk(node.args[1])]
                if isinstance(node, ast.ClassDef):
                    fine += [id(base) for base in node.bases]
            for node in ast.walk(tree):
                where = f"L22, L25: {path.name}:{getattr(node, 'lineno', 0)}"
                if isinstance(node, ast.Name) and node.id in dir(builtins):
                    self.assertIn(id(node), fine, where)
                if isinstance(node, ast.Attribute) and node.attr in METHODS:
                    self.assertIn(id(node), fine, where)

    def test_no_annotations_and_no_escapes(self):
        for name, node in nodes((ast.FunctionDef, ast.arg)):
            noted = node.returns if isinstance(node, ast.FunctionDef) else node.annotation
            self.assertIsNone(noted, f"L21: {name}:{node.lineno}")
        for path in files():
            for escape in re.findall(r"\\.", path.read_text()):
                self.assertIn(escape, ["\\n", "\\t", "\\\\", "\\'", "\\\""], f"L27: {path.name}")

    def test_lists_and_dicts_of_a_files_top(self):
        for path in files():
            for node in ast.parse(path.read_text()).body:
                if isinstance(node, ast.Assign):
                    held = [each for each in ast.walk(node.value) if isinstance(each, (ast.List, ast.Dict, ast.Set))]
                    self.assertLessEqual(len(held), 1, f"L15: {path.name}:{node.lineno}")
                    self.assertFalse([each for each in ast.walk(node.value) if isinstance(each, ast.Call)], "L3")

    def test_lazy_walks_are_not_kept(self):
        for name, node in nodes((ast.Assign, ast.Return)):
            if isinstance(node.value, ast.Call):
                called = node.value.func
                word = called.id if isinstance(called, ast.Name) else getattr(called, "attr", "")
                self.assertNotIn(word, LAZY + ["items", "keys", "values"], f"L23: {name}:{node.lineno}")


if __name__ == "__main__":
    unittest.main()
