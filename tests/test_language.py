"""The rules of LANGUAGE.md that can be seen in the code without much ado.

In places these tests bar more than the rules do, as the package has had no use for the rest so far.
"""

import ast
import builtins
import os
import re
import unittest
import warnings

FOLDER = os.path.join(os.path.dirname(os.path.dirname(os.path.abspath(__file__))), "saidearly")
BUILTINS = set("""len range enumerate zip min max sum abs sorted reversed int str bool list tuple dict set isinstance
    ord repr any all divmod ValueError""".split())
METHODS = set("""append clear copy count endswith extend find get index insert items join keys pop remove replace
    reverse setdefault split splitlines startswith strip update values zfill isdigit""".split())
WORDS = re.compile(r"\b(type|typing|enum|Enum|namedtuple|NamedTuple|abstractmethod|Generic|Protocol|ABC)\b"
                   r"|dataclass|overload|contextmanager|_wall|__class__|__dict__")
UNUSED = set("""register mro elements open input law version_info with_traceback add_note attrgetter breakpoint builtins
    compile copyright credits delattr dir eval exec exit gc getattr globals hasattr help id importlib license locals
    methodcaller os quit setattr super type vars sys""".split())
DUNDERS = {"__init__", "__eq__"}
STATEMENTS = (ast.Module, ast.FunctionDef, ast.ClassDef, ast.Return, ast.Assign, ast.AugAssign, ast.For, ast.While,
              ast.If, ast.Raise, ast.ImportFrom, ast.Expr, ast.Pass, ast.Break, ast.Continue, ast.Delete, ast.Try)
LIBRARY = {"math": ["gcd"]}


def files():
    return sorted(name for name in os.listdir(FOLDER) if name != "__pycache__")


def texts():
    for name in files():
        with open(os.path.join(FOLDER, name), encoding="utf-8") as file:
            yield name, file.read()


def trees():
    for name, text in texts():
        yield name, ast.parse(text)


def functions():
    for name, tree in trees():
        for node in ast.walk(tree):
            if isinstance(node, ast.FunctionDef):
                yield name, node


def bound_in(function):
    """The parameters and local variables of a function."""
    names = [argument.arg for argument in function.args.args]
    for node in ast.walk(function):
        if isinstance(node, ast.Name) and isinstance(node.ctx, ast.Store):
            names.append(node.id)
    return names


class Files(unittest.TestCase):
    """L1, L10, L12, L14, L17, L27"""

    def test_files(self):
        for name in files():
            self.assertRegex(name, r"^(__init__|[a-z][a-z_0-9]*)\.py$")
        self.assertIn("__init__.py", files())

    def test_sizes(self):
        for name, text in texts():
            lines = text.split("\n")
            self.assertLessEqual(len(lines), 399, name)
            self.assertLessEqual(max(len(line) for line in lines), 120, name)
        for name, node in functions():
            self.assertLessEqual(node.end_lineno - node.lineno + 1, 40, (name, node.name))

    def test_characters(self):
        for name, text in texts():
            self.assertRegex(text, r"\A[ -~\n]*\n\Z", name)

    def test_words_and_strings(self):
        for name, tree in trees():
            for node in ast.walk(tree):
                if isinstance(node, ast.Constant) and isinstance(node.value, str):
                    self.assertNotIn("%", node.value, name)
            code = "\n".join(line.split("#")[0] for line in ast.unparse(tree).split("\n"))
            self.assertIsNone(WORDS.search(code), name)

    def test_no_warnings(self):
        for name, text in texts():
            with warnings.catch_warnings():
                warnings.simplefilter("error")
                compile(text, name, "exec")


class Statements(unittest.TestCase):
    """L2, L3, L4, L6, L7, L16, L20"""

    def test_module_level(self):
        for name, tree in trees():
            for node in tree.body:
                is_docstring = isinstance(node, ast.Expr) and isinstance(node.value, ast.Constant)
                self.assertTrue(is_docstring or isinstance(node, (ast.ImportFrom, ast.ClassDef, ast.FunctionDef,
                                                                  ast.Assign)), (name, node.lineno))
                if isinstance(node, ast.Assign):
                    self.assertFalse([part for part in ast.walk(node.value) if isinstance(part, (ast.Call, ast.Name))])
                    self.assertIsInstance(node.targets[0], ast.Name)

    def test_imports_are_of_what_the_named_file_defines(self):
        defined = {}
        imported = {}
        for name, tree in trees():
            file = name[:-3]
            defined[file] = [node.name for node in tree.body if isinstance(node, (ast.ClassDef, ast.FunctionDef))]
            defined[file] += [node.targets[0].id for node in tree.body if isinstance(node, ast.Assign)]
            imported[file] = [node for node in ast.walk(tree) if isinstance(node, (ast.ImportFrom, ast.Import))]
        for file, nodes in imported.items():
            for node in nodes:
                self.assertIsInstance(node, ast.ImportFrom)
                self.assertEqual(node.level, 0)
                if node.module in LIBRARY:
                    self.assertLessEqual({alias.name for alias in node.names}, set(LIBRARY[node.module]))
                    self.assertEqual([alias.asname for alias in node.names], [None] * len(node.names))
                    continue
                package, other = node.module.split(".")
                self.assertEqual(package, "saidearly")
                for alias in node.names:
                    self.assertIsNone(alias.asname)
                    self.assertIn(alias.name, defined[other])
            names = [alias.name for node in nodes for alias in node.names] + defined[file]
            self.assertEqual(len(names), len(set(names)), file)

    def test_imports_go_one_way(self):
        needs = {name[:-3]: {node.module.split(".")[1] for node in ast.walk(tree)
                             if isinstance(node, ast.ImportFrom) and node.module not in LIBRARY}
                 for name, tree in trees()}
        left = dict(needs)
        while left:
            free = [file for file, others in left.items() if not others & set(left)]
            self.assertTrue(free, left)
            for file in free:
                del left[file]

    def test_imports_are_used(self):
        for name, tree in trees():
            used = {node.id for node in ast.walk(tree) if isinstance(node, ast.Name)}
            for node in ast.walk(tree):
                if isinstance(node, ast.ImportFrom):
                    for alias in node.names:
                        self.assertIn(alias.name, used, name)

    def test_what_is_taken_from_the_library_is_only_called(self):
        for name, tree in trees():
            called = [node.func for node in ast.walk(tree) if isinstance(node, ast.Call)]
            for node in ast.walk(tree):
                if isinstance(node, ast.Name) and node.id in sum(LIBRARY.values(), []):
                    self.assertIn(node, called, (name, node.lineno))

    def test_only_own_errors_are_caught(self):
        own = {node.name for name, tree in trees() if name == "errors.py" for node in tree.body
               if isinstance(node, ast.ClassDef)}
        for name, tree in trees():
            for node in ast.walk(tree):
                if isinstance(node, ast.Try):
                    self.assertEqual((node.orelse, node.finalbody), ([], []))
                    for handler in node.handlers:
                        self.assertIn(ast.unparse(handler.type), own, name)

    def test_no_loop_changes_what_it_goes_over(self):
        """[L23], as far as it goes by names."""
        changing = ("append", "extend", "pop", "insert", "remove", "clear", "update", "setdefault", "reverse")
        for name, tree in trees():
            for node in ast.walk(tree):
                if isinstance(node, ast.For):
                    gone_over = {ast.unparse(part) for part in ast.walk(node.iter)
                                 if isinstance(part, (ast.Name, ast.Attribute))}
                    for part in ast.walk(node):
                        if isinstance(part, ast.Call) and isinstance(part.func, ast.Attribute):
                            if part.func.attr in changing:
                                self.assertNotIn(ast.unparse(part.func.value), gone_over, (name, node.lineno))
                        if isinstance(part, ast.Subscript) and isinstance(part.ctx, (ast.Store, ast.Del)):
                            self.assertNotIn(ast.unparse(part.value), gone_over, (name, node.lineno))

    def test_sets_stand_where_they_may(self):
        """L24: only in len, in sorted, or behind in."""
        for name, tree in trees():
            fair = []
            for node in ast.walk(tree):
                if isinstance(node, ast.Call) and ast.unparse(node.func) in ("len", "sorted"):
                    fair.extend(node.args)
            for node in ast.walk(tree):
                if isinstance(node, ast.Call) and ast.unparse(node.func) == "set":
                    self.assertIn(node, fair, (name, node.lineno))

    def test_statements(self):
        for name, tree in trees():
            for node in ast.walk(tree):
                if isinstance(node, ast.stmt):
                    self.assertIsInstance(node, STATEMENTS, (name, getattr(node, "lineno", 0)))
                if isinstance(node, (ast.FunctionDef, ast.ClassDef)):
                    self.assertEqual(node.decorator_list, [])

    def test_expressions(self):
        barred = (ast.Div, ast.GeneratorExp, ast.Lambda, ast.Set, ast.SetComp, ast.Yield, ast.Await, ast.NamedExpr,
                  ast.Starred, ast.JoinedStr)
        for name, tree in trees():
            for node in ast.walk(tree):
                self.assertNotIsInstance(node, barred, (name, getattr(node, "lineno", 0)))
                if isinstance(node, ast.Constant):
                    self.assertNotIsInstance(node.value, (float, complex))
                if isinstance(node, ast.Compare) and isinstance(node.ops[0], (ast.Is, ast.IsNot)):
                    self.assertIn(ast.unparse(node.comparators[0]), ("None", "True", "False"))


class Names(unittest.TestCase):
    """L8, L12, L15, L17, L18, L25, L28"""

    def test_builtins(self):
        barred = set(dir(builtins)) - BUILTINS - {"True", "False", "None"}
        for name, tree in trees():
            for node in ast.walk(tree):
                if isinstance(node, ast.Name) and isinstance(node.ctx, ast.Load):
                    self.assertNotIn(node.id, barred, (name, node.lineno))

    def test_no_name_of_a_builtin_is_bound(self):
        for name, node in functions():
            for bound in bound_in(node):
                self.assertNotIn(bound, dir(builtins), (name, node.name))
        for name, tree in trees():
            for node in tree.body:
                if isinstance(node, (ast.FunctionDef, ast.ClassDef)):
                    self.assertNotIn(node.name, dir(builtins), name)

    def test_no_local_name_is_that_of_the_file(self):
        for name, tree in trees():
            top = [node.name for node in tree.body if isinstance(node, (ast.ClassDef, ast.FunctionDef))]
            top += [alias.name for node in tree.body if isinstance(node, ast.ImportFrom) for alias in node.names]
            for node in ast.walk(tree):
                if isinstance(node, ast.FunctionDef):
                    self.assertEqual([bound for bound in bound_in(node) if bound in top], [], (name, node.name))

    def test_plain_names(self):
        for name, tree in trees():
            for node in ast.walk(tree):
                for found in (getattr(node, "id", None), getattr(node, "attr", None), getattr(node, "arg", None),
                              getattr(node, "name", None)):
                    if isinstance(found, str) and found not in DUNDERS:
                        self.assertRegex(found, r"^(_|_?[A-Za-z][A-Za-z0-9_]*)$", name)
                        self.assertNotIn(found, UNUSED, name)

    def test_underscore_is_not_read(self):
        for name, tree in trees():
            for node in ast.walk(tree):
                if isinstance(node, ast.Name) and node.id == "_":
                    self.assertIsInstance(node.ctx, ast.Store, name)

    def test_methods_that_are_called(self):
        own = {node.name for _, node in functions()}
        for name, tree in trees():
            for node in ast.walk(tree):
                if isinstance(node, ast.Call) and isinstance(node.func, ast.Attribute):
                    self.assertIn(node.func.attr, own | METHODS, (name, node.lineno))
                    self.assertEqual(node.keywords, [])

    def test_no_name_is_a_method_and_an_attribute(self):
        for name, tree in trees():
            for node in ast.walk(tree):
                if isinstance(node, ast.ClassDef):
                    methods = {part.name for part in node.body if isinstance(part, ast.FunctionDef)}
                    kept = {part.attr for part in ast.walk(node)
                            if isinstance(part, ast.Attribute) and isinstance(part.ctx, ast.Store)}
                    self.assertEqual(methods & kept, set(), (name, node.name))

    def test_double_underscores(self):
        for name, node in functions():
            if node.name.startswith("__"):
                self.assertIn(node.name, DUNDERS, name)


if __name__ == "__main__":
    unittest.main()
