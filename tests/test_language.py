"""Those rules of the language subset that can be checked line by line and word by word."""

import ast
import builtins
import pathlib
import re
import unittest

import tiedmoments

FOLDER = pathlib.Path(tiedmoments.__file__).parent
FILES = sorted(FOLDER.glob("*.py"))
BUILTINS = """len range enumerate zip min max sum abs sorted reversed int str bool bytes list tuple dict set frozenset
    isinstance ord repr any all divmod pow getattr hasattr setattr Exception ValueError TypeError KeyError IndexError
    LookupError ZeroDivisionError ArithmeticError OverflowError RuntimeError NotImplementedError AttributeError
    StopIteration NotImplemented iter next map property staticmethod classmethod super object float""".split()
DECORATORS = ["property", "staticmethod", "classmethod"]
SPECIAL = """__init__ __eq__ __repr__ __str__ __len__ __call__ __or__ __and__ __contains__ __bool__""".split()
OPERATORS = ["__or__", "__and__", "__contains__", "__bool__"]
CALM = ["__eq__", "__repr__", "__str__", "__len__"]
CHANGING = "append clear extend insert pop remove reverse setdefault update sort add discard".split()
FRESH = (ast.List, ast.Dict, ast.Set, ast.ListComp, ast.DictComp, ast.SetComp)


def nodes(path, kind):
    return [node for node in ast.walk(ast.parse(path.read_text())) if isinstance(node, kind)]


def functions_by_name():
    """All functions and methods of the package, and the constructors of its classes under the classes' names."""
    found = {}
    for path in FILES:
        for node in nodes(path, ast.FunctionDef):
            found.setdefault(node.name, []).append(node)
        for node in nodes(path, ast.ClassDef):
            makers = [part for part in node.body if isinstance(part, ast.FunctionDef) and part.name == "__init__"]
            found.setdefault(node.name, []).extend(makers)
    return found


def called_names(function):
    """The names under which a function calls something, and those of the attributes that it reads."""
    for node in ast.walk(function):
        if isinstance(node, ast.Call) and isinstance(node.func, ast.Name):
            yield node.func.id
        if isinstance(node, ast.Attribute):
            yield node.attr


def run_by(starts):
    """All functions that may be run by some functions, by their names alone."""
    known = functions_by_name()
    found = list(starts)
    for function in found:
        for name in called_names(function):
            found.extend([other for other in known.get(name, []) if other not in found])
    return found


def own_values(function):
    """The local variables that are only ever assigned new lists and dicts."""
    assigned = {}
    for node in ast.walk(function):
        if isinstance(node, ast.Assign):
            for target in node.targets:
                if isinstance(target, ast.Name):
                    assigned.setdefault(target.id, []).append(node.value)
    return [name for name, values in assigned.items() if all(isinstance(value, FRESH) for value in values)]


def changes(function):
    """The places at which a function changes something that it did not create, or calls what it is passed."""
    own = own_values(function)
    local = [node.arg for node in ast.walk(function) if isinstance(node, ast.arg)]
    local += [node.id for node in ast.walk(function) if isinstance(node, ast.Name) and isinstance(node.ctx, ast.Store)]
    for node in ast.walk(function):
        if isinstance(node, ast.Attribute) and not isinstance(node.ctx, ast.Load):
            if function.name != "__init__":
                yield function.name, node.lineno
        if isinstance(node, ast.Subscript) and not isinstance(node.ctx, ast.Load):
            if not isinstance(node.value, ast.Name) or node.value.id not in own:
                yield function.name, node.lineno
        if isinstance(node, ast.Call) and isinstance(node.func, ast.Name) and node.func.id in local:
            yield function.name, node.lineno
        if isinstance(node, ast.Call) and isinstance(node.func, ast.Attribute) and node.func.attr in CHANGING:
            changed = node.func.value
            while isinstance(changed, (ast.Subscript, ast.Call, ast.Attribute)):
                changed = changed.func if isinstance(changed, ast.Call) else changed.value
            if not isinstance(changed, ast.Name) or changed.id not in own:
                yield function.name, node.lineno
        if isinstance(node, (ast.Global, ast.Nonlocal, ast.Delete)):
            yield function.name, node.lineno
        if isinstance(node, ast.AugAssign) and not isinstance(node.value, ast.Constant):
            yield function.name, node.lineno


def started_by(names):
    """The functions with some names, and the properties, which are read like attributes."""
    known = functions_by_name()
    listed = [function for name in names for function in known.get(name, [])]
    read = [node for path in FILES for node in nodes(path, ast.FunctionDef) for decorator in node.decorator_list
            if is_property(decorator)]
    return listed + read


def decorated(node, found):
    """The names of the methods of a class over which a decorator stands."""
    methods = [part for part in node.body if isinstance(part, ast.FunctionDef)]
    return {method.name for method in methods if any(found(decorator) for decorator in method.decorator_list)}


def is_property(decorator):
    return isinstance(decorator, ast.Name) and decorator.id == "property"


def is_setter(decorator):
    return isinstance(decorator, ast.Attribute) and decorator.attr == "setter"


def read_only(trees):
    """The names that some class has as a property without having its setter."""
    classes = [node for tree in trees for node in ast.walk(tree) if isinstance(node, ast.ClassDef)]
    return {name for node in classes for name in decorated(node, is_property) - decorated(node, is_setter)}


def assigned_names(trees):
    """The names of the attributes that are assigned or deleted anywhere, of whatever object."""
    found = set()
    for tree in trees:
        for node in ast.walk(tree):
            if isinstance(node, ast.Attribute) and not isinstance(node.ctx, ast.Load):
                found.add(node.attr)
            if isinstance(node, ast.Call) and isinstance(node.func, ast.Name) and node.func.id == "setattr":
                found.add(ast.literal_eval(node.args[1]))
    return found


class LanguageTest(unittest.TestCase):

    def test_the_folder_holds_files_with_plain_names_only(self):
        for path in FOLDER.iterdir():
            if path.name != "__pycache__":
                self.assertIsNotNone(re.fullmatch("[a-z0-9_]+[.]py", path.name), path)
        self.assertIn("__init__.py", [path.name for path in FILES])

    def test_characters_and_sizes(self):
        for path in FILES:
            text = path.read_bytes().decode("ascii")
            self.assertTrue(all(sign == "\n" or " " <= sign <= "~" for sign in text), path)
            lines = text.splitlines()
            self.assertLessEqual(len(lines), 399, path)
            self.assertLessEqual(max(map(len, lines)), 120, path)
            for node in nodes(path, ast.FunctionDef):
                self.assertLessEqual(node.end_lineno - node.lineno + 1, 40, (path, node.name))

    def test_imports(self):
        modules = [path.stem for path in FILES]
        for path in FILES:
            self.assertEqual(nodes(path, ast.Import), [], path)
            for node in nodes(path, ast.ImportFrom):
                package, _, module = node.module.partition(".")
                self.assertEqual((package, node.level), ("tiedmoments", 0), path)
                self.assertIn(module, modules)
                defined = nodes(FOLDER / (module + ".py"), (ast.FunctionDef, ast.ClassDef, ast.Assign))
                names = [getattr(found, "name", None) or found.targets[0] for found in defined]
                names = [name.id if isinstance(name, ast.Name) else name for name in names]
                for alias in node.names:
                    self.assertIn(alias.name, names)

    def test_builtins(self):
        for path in FILES:
            for node in nodes(path, ast.Name):
                if node.id in dir(builtins):
                    self.assertIn(node.id, BUILTINS, path)
                    self.assertIsInstance(node.ctx, ast.Load, (path, node.id))
            for node in nodes(path, ast.arg):
                self.assertNotIn(node.arg, dir(builtins), path)

    def test_statements_and_values(self):
        barred = (ast.Global, ast.AsyncFunctionDef, ast.AsyncFor, ast.AsyncWith, ast.Await, ast.Div, ast.MatMult)
        for path in FILES:
            self.assertEqual(nodes(path, barred), [], path)
            for node in nodes(path, ast.Constant):
                self.assertNotIsInstance(node.value, (float, complex), path)
                if isinstance(node.value, str):
                    self.assertNotIn("%", node.value, path)

    def test_no_method_is_called_by_the_name_of_an_attribute(self):
        # What an operator runs calls nothing that an object holds, and such a call looks like one.
        found = [node for path in FILES for node in nodes(path, ast.Attribute)]
        stored = {node.attr for node in found if isinstance(node.ctx, ast.Store)}
        self.assertIn("index", stored)
        for path in FILES:
            for node in nodes(path, ast.Call):
                if isinstance(node.func, ast.Attribute):
                    self.assertNotIn(node.func.attr, stored, (path, node.lineno))

    def test_no_property_without_a_setter_has_the_name_of_an_assigned_attribute(self):
        trees = [ast.parse(path.read_text()) for path in FILES]
        barred, assigned = read_only(trees), assigned_names(trees)
        self.assertEqual(sorted(barred & assigned), [])
        # What is looked for is there at all; a limit is both, and has its setter.
        self.assertTrue({"busy", "computed", "greatest", "least", "present", "tracer"} <= barred)
        self.assertTrue({"log", "limit", "lot", "value"} <= assigned)

    def test_such_names_are_found_in_every_kind_of_assignment(self):
        getter = "class A:\n    @property\n    def log(self):\n        return self._log\n"
        setter = "    @log.setter\n    def log(self, value):\n        self._log = value\n"
        for row in ["box.log = 1", "box.log += 1", "box.log: int = 1", "k, (box.log, *box.rest) = xs", "box.rows[0].log = 1",
                    "for box.log in xs: pass", "with xs as box.log: pass", "del box.log", "setattr(box, 'log', 1)"]:
            for text, clash in [(getter, {"log"}), (getter + setter, set())]:
                trees = [ast.parse(text), ast.parse(row)]
                self.assertEqual(read_only(trees) & assigned_names(trees), clash, row)
            # A setter of one class does not stand for that of another one.
            trees = [ast.parse(getter + setter), ast.parse(getter.replace("A", "B")), ast.parse(row)]
            self.assertEqual(read_only(trees) & assigned_names(trees), {"log"}, row)
        for row in ["log = 1", "k = box.log", "box.logs = 1", "box.log[0] = 1", "box.log.rows = 1", "f(log=1)", "box.log()"]:
            self.assertNotIn("log", assigned_names([ast.parse(row)]), row)

    def test_what_operators_run_changes_nothing(self):
        for function in run_by(started_by(OPERATORS + CALM)):
            self.assertEqual(list(changes(function)), [], function.name)

    def test_what_a_repr_runs_makes_no_object_and_raises_nothing(self):
        classes = [node.name for path in FILES for node in nodes(path, ast.ClassDef)]
        functions = run_by(started_by(CALM))
        self.assertIn("end", [function.name for function in functions])
        for function in functions:
            self.assertEqual(list(changes(function)), [], function.name)
            self.assertNotIn("__init__", function.name)
            for node in ast.walk(function):
                self.assertNotIsInstance(node, (ast.Raise, ast.Yield, ast.YieldFrom), (function.name, node))
                if isinstance(node, ast.Call) and isinstance(node.func, ast.Name):
                    self.assertNotIn(node.func.id, classes, function.name)

    def test_decorators_and_special_methods(self):
        for path in FILES:
            for node in nodes(path, ast.ClassDef):
                self.assertEqual(node.decorator_list, [], path)
            for node in nodes(path, ast.FunctionDef):
                for decorator in node.decorator_list:
                    name = decorator.attr if isinstance(decorator, ast.Attribute) else decorator.id
                    self.assertIn(name, DECORATORS + ["setter"], (path, node.name))
                if node.name.startswith("__"):
                    self.assertIn(node.name, SPECIAL, path)


if __name__ == "__main__":
    unittest.main()
