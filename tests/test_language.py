"""The rules of the Python subset that a program can check plainly; the others are kept by reading."""

import ast
import builtins
import os
import re
import unittest

PACKAGE = os.path.join(os.path.dirname(os.path.dirname(os.path.abspath(__file__))), "keyedmoves")

BUILTINS = set("""len range enumerate zip min max sum abs sorted reversed int str bool bytes list tuple dict set
    frozenset isinstance ord repr any all divmod Exception ValueError TypeError KeyError IndexError LookupError
    ZeroDivisionError ArithmeticError OverflowError RuntimeError NotImplementedError AttributeError StopIteration
    NotImplemented iter next super property staticmethod classmethod""".split())
BUILTIN_METHODS = {name for kind in (str, int, list, dict, set, tuple, bytes) for name in dir(kind)}
METHODS = set("""append clear copy count endswith extend find get index insert isalnum isalpha isdigit islower isspace
    isupper items join keys ljust lower lstrip partition pop remove replace reverse rfind rjust rpartition rsplit
    rstrip setdefault split splitlines startswith strip update upper values zfill bit_length add discard title
    capitalize swapcase casefold center expandtabs removeprefix removesuffix rindex isascii isdecimal isnumeric
    istitle isidentifier isprintable translate sort""".split())
DOUBLE_UNDERSCORES = set("__init__ __eq__ __repr__ __str__ __len__ __enter__ __exit__ __call__ __iter__".split())
NAMES_NOT_USED = set("""register mro elements open input version_info with_traceback add_note attrgetter breakpoint
    builtins compile copyright credits delattr dir eval exec exit gc getattr globals hasattr help id importlib license
    locals methodcaller os quit setattr type vars sys format format_map""".split())
WORDS_NOT_USED = set("""type typing typing_extensions enum Enum IntEnum StrEnum Flag IntFlag Generic Protocol ABC
    ABCMeta namedtuple NamedTuple TypedDict TYPE_CHECKING abstractmethod""".split())
TAKES_A_LIST = ("any", "all", "min", "max", "sum", "sorted")


def read_files():
    """Return a dict from the name of each file of the package to its text."""
    texts = {}
    for name in sorted(os.listdir(PACKAGE)):
        if name != "__pycache__":
            with open(os.path.join(PACKAGE, name), encoding="utf-8") as file:
                texts[name] = file.read()
    return texts


def bound_names(tree):
    """Return all names that a file gives to something."""
    names = []
    for node in ast.walk(tree):
        if isinstance(node, (ast.FunctionDef, ast.ClassDef)):
            names.append(node.name)
        elif isinstance(node, ast.arg):
            names.append(node.arg)
        elif isinstance(node, ast.Name) and not isinstance(node.ctx, ast.Load):
            names.append(node.id)
        elif isinstance(node, ast.Attribute) and not isinstance(node.ctx, ast.Load):
            names.append(node.attr)
        elif isinstance(node, ast.alias):
            names.append(node.asname or node.name)
    return names


class Language(unittest.TestCase):
    def setUp(self):
        self.texts = read_files()
        self.trees = {name: ast.parse(text) for name, text in self.texts.items()}

    def each_node(self, *kinds):
        for name, tree in self.trees.items():
            for node in ast.walk(tree):
                if isinstance(node, kinds):
                    yield f"{name}:{getattr(node, 'lineno', 0)}", node

    def test_files(self):
        self.assertIn("__init__.py", self.texts)
        for name, text in self.texts.items():
            self.assertRegex(name, r"^[a-z0-9_]+\.py$")
            self.assertRegex(text, r"^[ -~\n]*$", name)
            lines = text.split("\n")
            self.assertLessEqual(len(lines), 401, name)
            self.assertLessEqual(max(len(line) for line in lines), 120, name)

    def test_functions_are_short(self):
        for where, node in self.each_node(ast.FunctionDef):
            self.assertLessEqual(node.end_lineno - node.lineno + 1, 40, where)

    def test_words(self):
        for name, text in self.texts.items():
            self.assertEqual(set(re.findall(r"\w+", text)) & WORDS_NOT_USED, set(), name)
            self.assertNotRegex(text, "dataclass|overload|contextmanager", name)
            self.assertNotIn("%", "".join(node.value for node in ast.walk(self.trees[name])
                                          if isinstance(node, ast.Constant) and isinstance(node.value, str)))

    def test_imports(self):
        for where, node in self.each_node(ast.Import, ast.ImportFrom):
            self.assertIsInstance(node, ast.ImportFrom, where)
            self.assertEqual(node.level, 0, where)
            self.assertIn(node.module.removeprefix("keyedmoves.") + ".py", self.texts, where)

    def test_imported_names_come_from_their_own_file(self):
        for where, node in self.each_node(ast.ImportFrom):
            source = self.trees[node.module.removeprefix("keyedmoves.") + ".py"]
            defined = [item.name for item in source.body if isinstance(item, (ast.FunctionDef, ast.ClassDef))]
            defined += [target.id for item in source.body if isinstance(item, ast.Assign) for target in item.targets]
            for alias in node.names:
                self.assertIn(alias.name, defined, where)

    def test_no_two_files_import_from_each_other(self):
        needs = {name: {node.module.removeprefix("keyedmoves.") + ".py" for node in tree.body
                        if isinstance(node, ast.ImportFrom)} for name, tree in self.trees.items()}
        while needs:
            free = [name for name in needs if not needs[name] & set(needs)]
            self.assertNotEqual(free, [], needs)
            for name in free:
                del needs[name]

    def test_names(self):
        for name, tree in self.trees.items():
            for bound in bound_names(tree):
                self.assertNotIn(bound, NAMES_NOT_USED, name)
                self.assertTrue(bound in DOUBLE_UNDERSCORES or not bound.startswith("_"), (name, bound))
            variables = {node.id for node in ast.walk(tree)
                         if isinstance(node, ast.Name) and not isinstance(node.ctx, ast.Load)}
            variables |= {node.arg for node in ast.walk(tree) if isinstance(node, ast.arg)}
            taken = {alias.name for node in tree.body if isinstance(node, ast.ImportFrom) for alias in node.names}
            taken |= {node.name for node in tree.body if isinstance(node, ast.ClassDef)}
            self.assertEqual(variables & (taken | set(dir(builtins))), set(), name)

    def test_builtins_and_their_methods(self):
        own = {bound for tree in self.trees.values() for bound in bound_names(tree)}
        for where, node in self.each_node(ast.Name):
            self.assertIn(node.id, own | BUILTINS, where)
        for where, node in self.each_node(ast.Attribute):
            if node.attr in BUILTIN_METHODS:
                self.assertIn(node.attr, METHODS | DOUBLE_UNDERSCORES, where)
            else:
                self.assertIn(node.attr, own, where)

    def test_methods_and_attributes(self):
        methods = {item.name for _, node in self.each_node(ast.ClassDef) for item in node.body
                   if isinstance(item, ast.FunctionDef)}
        attributes = {node.attr for _, node in self.each_node(ast.Attribute) if not isinstance(node.ctx, ast.Load)}
        self.assertEqual(methods & attributes, set())
        self.assertEqual(attributes & BUILTIN_METHODS, {"index"})
        self.assertEqual(methods & BUILTIN_METHODS - DOUBLE_UNDERSCORES, {"copy", "update"})

    def test_no_sort_beside_a_class_that_compares(self):
        for where, node in self.each_node(ast.Attribute):
            self.assertNotEqual(node.attr, "sort", where)

    def test_sets_are_not_iterated(self):
        for where, node in self.each_node(ast.For, ast.comprehension):
            self.assertNotIsInstance(node.iter, (ast.Set, ast.SetComp), where)
            self.assertFalse(ast.unparse(node.iter).startswith("set("), where)

    def test_only_own_errors_are_caught_and_raised(self):
        own = {node.name for node in self.trees["errors.py"].body if isinstance(node, ast.ClassDef)}
        for where, node in self.each_node(ast.ExceptHandler):
            self.assertIn(ast.unparse(node.type), own, where)
        for where, node in self.each_node(ast.Raise):
            self.assertIn(node.exc.func.id, own, where)

    def test_statements_and_expressions(self):
        for where, node in self.each_node(ast.Global, ast.AsyncFunctionDef, ast.Div, ast.AnnAssign):
            self.fail(where)
        for where, node in self.each_node(ast.Constant):
            self.assertNotIsInstance(node.value, (float, complex), where)
        for where, node in self.each_node(ast.Compare):
            for sign, right in zip(node.ops, node.comparators):
                if isinstance(sign, (ast.Is, ast.IsNot)):
                    self.assertIn(ast.unparse(right), ("None", "True", "False"), where)

    def test_lists_instead_of_generator_expressions(self):
        for where, node in self.each_node(ast.Call):
            if isinstance(node.func, ast.Name) and node.func.id in TAKES_A_LIST:
                for argument in node.args:
                    self.assertNotIsInstance(argument, ast.GeneratorExp, where)

    def test_zip_and_the_like_are_iterated_at_once(self):
        lazy = ("zip", "enumerate", "reversed", "range")
        allowed = ("list", "tuple", "dict", "sorted", "sum", "any", "all", "enumerate", "zip", "min", "max")
        for name, tree in self.trees.items():
            right = []
            for node in ast.walk(tree):
                if isinstance(node, (ast.For, ast.comprehension)):
                    right.append(node.iter)
                if isinstance(node, ast.Call) and isinstance(node.func, ast.Name) and node.func.id in allowed:
                    right += node.args
            for where, node in self.each_node(ast.Call):
                if where.startswith(name + ":") and isinstance(node.func, ast.Name) and node.func.id in lazy:
                    self.assertTrue(any(node is each for each in right), where)


if __name__ == "__main__":
    unittest.main()
