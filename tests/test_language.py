"""The rules of the Python subset that can be seen from one file or its imports."""

import ast
import builtins
import os
import unittest

PACKAGE = "oddsquares"
FOLDER = os.path.join(os.path.dirname(os.path.dirname(os.path.abspath(__file__))), PACKAGE)
LIBRARY = {"math": {"gcd", "lcm", "isqrt", "comb", "perm", "factorial"}}
BUILTINS = set("len range enumerate zip min max sum abs sorted reversed int str bool list tuple dict set isinstance any all divmod "
               "type super ValueError".split())
METHODS = set("append clear copy count endswith extend find get index insert isalnum isalpha isdigit islower isspace isupper items "
              "join keys ljust lower lstrip partition pop remove replace reverse rfind rjust rpartition rsplit rstrip setdefault "
              "split splitlines startswith strip update upper values zfill bit_length isascii removeprefix removesuffix".split())
SPECIAL = {"__init__", "__eq__", "__len__", "__bool__", "__contains__"}
BARRED = (ast.Lambda, ast.GeneratorExp, ast.Div, ast.Global, ast.Nonlocal, ast.Await, ast.AsyncFunctionDef, ast.AsyncFor,
          ast.AsyncWith, ast.Yield, ast.YieldFrom, ast.Match, ast.With, ast.AnnAssign, ast.NamedExpr, ast.Set,
          ast.SetComp, ast.Delete)
WORDS = {"type", "typing", "enum", "Enum", "Generic", "Protocol", "ABC", "namedtuple", "dataclass", "overload", "register", "mro",
         "elements", "open", "input", "law", "args", "_wall"}


def read_files():
    files = {}
    for name in sorted(os.listdir(FOLDER)):
        path = os.path.join(FOLDER, name)
        if name.endswith(".py"):
            with open(path, encoding="ascii") as lines:
                files[name[:-3]] = lines.read()
        else:
            assert name == "__pycache__", name
    return files


def stored_names(tree):
    """All parameters, variables, functions and classes of a file."""
    names = []
    for node in ast.walk(tree):
        if isinstance(node, ast.arg):
            names.append(node.arg)
        elif isinstance(node, ast.Name) and isinstance(node.ctx, ast.Store):
            names.append(node.id)
        elif isinstance(node, (ast.FunctionDef, ast.ClassDef)):
            names.append(node.name)
    return names


class LanguageTest(unittest.TestCase):
    def setUp(self):
        self.texts = read_files()
        self.trees = {name: ast.parse(text) for name, text in self.texts.items()}

    def test_sizes_and_characters(self):
        self.assertLessEqual(len(self.texts), 100)
        for name, text in self.texts.items():
            lines = text.split("\n")
            self.assertLessEqual(len(lines), 399, name)
            self.assertLessEqual(max(len(line) for line in lines), 120, name)
            self.assertTrue(all(" " <= sign <= "~" or sign == "\n" for sign in text), name)
            for node in ast.walk(self.trees[name]):
                if isinstance(node, ast.FunctionDef):
                    self.assertLessEqual(node.end_lineno - node.lineno + 1, 40, (name, node.name))

    def test_nodes(self):
        for name, tree in self.trees.items():
            for node in ast.walk(tree):
                self.assertNotIsInstance(node, BARRED, (name, getattr(node, "lineno", 0)))
                self.assertFalse(getattr(node, "decorator_list", []), name)
                if isinstance(node, ast.Constant):
                    self.assertNotIsInstance(node.value, (float, complex, bytes), name)
                    self.assertNotIn("%", str(node.value), name)
                if isinstance(node, ast.Try):
                    self.check_try(node, name)
                if isinstance(node, ast.Raise):
                    self.assertTrue(isinstance(node.exc, ast.Call) and isinstance(node.exc.func, ast.Name), name)
                if isinstance(node, ast.Compare) and isinstance(node.ops[0], (ast.Is, ast.IsNot)):
                    self.assertTrue(isinstance(node.comparators[0], (ast.Constant, ast.Call)), name)

    def check_try(self, node, name):
        """One call of an own function, and handlers of own errors, which are not named."""
        self.assertEqual((len(node.body), node.orelse, node.finalbody), (1, [], []), name)
        for handler in node.handlers:
            self.assertIsNone(handler.name, name)
            kinds = handler.type.elts if isinstance(handler.type, ast.Tuple) else [handler.type]
            for kind in kinds:
                self.assertIn("class " + kind.id + "(OddError)", self.texts["errors"], name)

    def test_module_level(self):
        for name, tree in self.trees.items():
            kinds = [type(node) for node in tree.body]
            self.assertEqual(kinds[0], ast.Expr, name)
            self.assertLessEqual(set(kinds[1:]), {ast.ImportFrom, ast.Assign, ast.FunctionDef, ast.ClassDef}, name)
            bound = [node.name for node in tree.body if hasattr(node, "name")]
            bound += [told.name for node in tree.body if isinstance(node, ast.ImportFrom) for told in node.names]
            bound += [told.id for node in tree.body if isinstance(node, ast.Assign) for told in node.targets]
            self.assertEqual(len(bound), len(set(bound)), name)

    def test_imports(self):
        reached = {}
        for name, tree in self.trees.items():
            taken = []
            for node in ast.walk(tree):
                if not isinstance(node, ast.ImportFrom):
                    self.assertNotIsInstance(node, ast.Import, name)
                    continue
                self.assertTrue(all(told.asname is None for told in node.names), name)
                words = {told.name for told in node.names}
                if node.module in LIBRARY:
                    self.assertLessEqual(words, LIBRARY[node.module], name)
                    continue
                package, file = node.module.split(".")
                self.assertEqual((package, node.level), (PACKAGE, 0))
                defined = {told for line in self.trees[file].body for told in stored_names(line)
                           if isinstance(line, (ast.FunctionDef, ast.ClassDef, ast.Assign))}
                self.assertLessEqual(words, defined, name)
                taken.append(file)
            reached[name] = taken
        self.check_no_circles(reached)

    def check_no_circles(self, reached):
        while reached:
            free = [name for name in reached if not any(file in reached for file in reached[name])]
            self.assertTrue(free, sorted(reached))
            for name in free:
                del reached[name]

    def test_names(self):
        for name, tree in self.trees.items():
            stored = stored_names(tree)
            imported = {told.name for node in tree.body if isinstance(node, ast.ImportFrom) for told in node.names}
            used = {node.id for node in ast.walk(tree) if isinstance(node, ast.Name)}
            self.assertLessEqual(imported, used, name)
            for word in stored:
                if word.startswith("__"):
                    self.assertIn(word, SPECIAL, name)
                    continue
                self.assertNotIn(word, imported, name)
                self.assertFalse(hasattr(builtins, word), (name, word))
                self.assertNotIn(word, WORDS, name)
            for word in used:
                self.assertTrue(word in BUILTINS or not hasattr(builtins, word), (name, word))

    def test_methods_and_attributes(self):
        own = {node.name for tree in self.trees.values() for part in tree.body if isinstance(part, ast.ClassDef)
               for node in part.body if isinstance(node, ast.FunctionDef)}
        assigned = {node.attr for tree in self.trees.values() for node in ast.walk(tree)
                    if isinstance(node, ast.Attribute) and isinstance(node.ctx, ast.Store)}
        self.assertFalse((own - SPECIAL) & (METHODS | WORDS))
        self.assertFalse(assigned & WORDS)
        for name, tree in self.trees.items():
            called = {id(node.func) for node in ast.walk(tree) if isinstance(node, ast.Call)}
            for node in ast.walk(tree):
                if not isinstance(node, ast.Attribute):
                    continue
                allowed = METHODS | own | {"__init__"} if id(node) in called else assigned
                self.assertIn(node.attr, allowed, (name, node.lineno))


if __name__ == "__main__":
    unittest.main()
