"""Whether the files of the package keep the plainer rules of the language."""

import ast
import builtins
import os
import unittest

FOLDER = os.path.join(os.path.dirname(os.path.dirname(os.path.abspath(__file__))), "whichpaces")
LIBRARY = {"math": ["gcd", "lcm", "isqrt", "comb"], "itertools": ["combinations", "product", "permutations"]}
BUILTINS = (
    "len range enumerate zip min max sum abs sorted reversed int str bool list tuple dict isinstance any all divmod "
    "ValueError LookupError RuntimeError ArithmeticError"
).split()
DECORATORS = ["property", "staticmethod"]
METHODS = (
    "append clear copy count endswith extend find get index insert items join keys pop remove replace reverse "
    "setdefault split startswith strip values bit_length partition"
).split()
PLAIN = (ast.Constant, ast.Tuple, ast.Dict, ast.BinOp, ast.Pow, ast.Mult, ast.Sub, ast.UnaryOp, ast.USub, ast.Load)
# An interactive reader of Python puts _ among the builtins.
PYTHONS_OWN = [name for name in dir(builtins) if name != "_"]
STATEMENTS = (
    ast.FunctionDef, ast.ClassDef, ast.ImportFrom, ast.Assign, ast.AugAssign, ast.Return, ast.If, ast.For, ast.While,
    ast.Raise, ast.Break, ast.Continue, ast.Pass, ast.Expr, ast.Assert, ast.Delete, ast.Try,
)


def files():
    """The names of the package's files, without the ending, and their texts."""
    found = {}
    for name in sorted(os.listdir(FOLDER)):
        if name != "__pycache__":
            with open(os.path.join(FOLDER, name), encoding="utf-8") as file:
                found[name] = file.read()
    return found


TREES = {name[:-3]: ast.parse(text) for name, text in files().items()}


def plain_value(node):
    """What an expression at module level is: a literal, or one reckoned of literals."""
    for part in ast.walk(node):
        if not isinstance(part, PLAIN):
            raise ValueError(ast.dump(part))
    return eval(compile(ast.Expression(node), "plain", "eval"), {})


def bound_at_top(tree):
    """The names that a file binds at its module level."""
    names = []
    for node in tree.body:
        if isinstance(node, (ast.FunctionDef, ast.ClassDef)):
            names.append(node.name)
        elif isinstance(node, ast.ImportFrom):
            names += [one.asname or one.name for one in node.names]
        elif isinstance(node, ast.Assign):
            names += [target.id for target in node.targets]
    return names


def local_names(function):
    """The parameters of a function, and what it assigns."""
    names = [one.arg for one in function.args.args]
    for node in ast.walk(function):
        if isinstance(node, ast.Name) and isinstance(node.ctx, ast.Store):
            names.append(node.id)
    return names


class Rules(unittest.TestCase):
    def test_texts(self):
        for name, text in files().items():
            self.assertRegex(name, r"^[a-z_]+\.py$")
            self.assertTrue(all([" " <= sign <= "~" or sign == "\n" for sign in text]), name)
            self.assertLessEqual(len(text.splitlines()), 399, name)
            self.assertLessEqual(max([len(line) for line in text.splitlines()]), 120, name)
            self.assertTrue(ast.get_docstring(ast.parse(text)), name)
        self.assertIn("__init__.py", files())
        self.assertLessEqual(len(files()), 100)

    def test_functions_are_small_and_plain(self):
        for name, tree in TREES.items():
            for node in ast.walk(tree):
                if isinstance(node, ast.FunctionDef):
                    self.assertLessEqual(node.end_lineno - node.lineno + 1, 40, (name, node.name))
                    for decorator in node.decorator_list:
                        self.assertIn(decorator.id, DECORATORS, (name, node.name))
                    if node.name != "__init__":
                        self.assertTrue(ast.get_docstring(node), (name, node.name))

    def test_module_level(self):
        for name, tree in TREES.items():
            for node in tree.body[1:]:
                allowed = (ast.ImportFrom, ast.FunctionDef, ast.ClassDef, ast.Assign)
                self.assertIsInstance(node, allowed, name)
                if isinstance(node, ast.Assign):
                    told = plain_value(node.value)
                    self.assertIsInstance(told, (int, str, tuple, dict), name)
                    if isinstance(told, (tuple, dict)):
                        inside = list(told.values()) if isinstance(told, dict) else told
                        self.assertEqual([part for part in inside if isinstance(part, (list, dict))], [], name)
            names = bound_at_top(tree)
            self.assertEqual(len(names), len(set(names)), name)

    def test_imports(self):
        seen = {}
        for name, tree in TREES.items():
            seen[name] = []
            for node in [node for node in ast.walk(tree) if isinstance(node, (ast.Import, ast.ImportFrom))]:
                self.assertIsInstance(node, ast.ImportFrom, name)
                for one in node.names:
                    self.assertIsNone(one.asname)
                    if node.module in LIBRARY:
                        self.assertIn(one.name, LIBRARY[node.module], name)
                    else:
                        file = node.module.split(".")[1]
                        seen[name].append(file)
                        brought = [more for made in TREES[file].body if isinstance(made, ast.ImportFrom)
                                   for more in bound_at_top_of(made)]
                        self.assertIn(one.name, bound_at_top(TREES[file]), (name, file))
                        self.assertNotIn(one.name, brought, (name, file))
        while seen:
            free = [name for name in seen if not [file for file in seen[name] if file in seen]]
            self.assertNotEqual(free, [], "files import from each other")
            seen = {name: told for name, told in seen.items() if name not in free}

    def test_each_import_is_used(self):
        for name, tree in TREES.items():
            used = [node.id for node in ast.walk(tree) if isinstance(node, ast.Name)]
            for node in tree.body:
                if isinstance(node, ast.ImportFrom):
                    for one in node.names:
                        self.assertIn(one.name, used, name)

    def test_names_mean_one_thing(self):
        for name, tree in TREES.items():
            barred = [one for node in tree.body if isinstance(node, ast.ImportFrom) for one in bound_at_top_of(node)]
            barred += [node.name for node in tree.body if isinstance(node, ast.ClassDef)] + PYTHONS_OWN
            for node in ast.walk(tree):
                if isinstance(node, ast.FunctionDef):
                    self.assertEqual([one for one in local_names(node) if one in barred], [], name)
                    self.assertNotIn(node.name, PYTHONS_OWN)

    def test_only_plain_builtins_and_methods(self):
        own = [node.name for tree in TREES.values() for head in tree.body if isinstance(head, ast.ClassDef)
               for node in head.body if isinstance(node, ast.FunctionDef)]
        for builtin in [(), [], {}, "", b"", 0, set()]:
            self.assertEqual([one for one in own if one in dir(builtin) and one != "__init__"], [])
        for name, tree in TREES.items():
            top = bound_at_top(tree)
            for node in ast.walk(tree):
                if isinstance(node, ast.Name) and node.id in PYTHONS_OWN and node.id not in top:
                    self.assertIn(node.id, BUILTINS + DECORATORS, name)
                if isinstance(node, ast.Call) and isinstance(node.func, ast.Attribute):
                    self.assertIn(node.func.attr, METHODS + own, name)

    def test_statements_and_signs(self):
        for name, tree in TREES.items():
            for node in ast.walk(tree):
                if isinstance(node, ast.stmt):
                    self.assertIsInstance(node, STATEMENTS, name)
                if isinstance(node, ast.BinOp):
                    self.assertNotIsInstance(node.op, (ast.Div, ast.MatMult), name)
                    if isinstance(node.op, ast.Pow):
                        self.assertIsInstance(node.right, ast.Constant, name)
                if isinstance(node, ast.Call):
                    for star in [part for part in node.args if isinstance(part, ast.Starred)]:
                        self.assertIsInstance(star.value, ast.Name, name)
                if isinstance(node, ast.Dict):
                    for key, value in zip(node.keys, node.values):
                        self.assertTrue(key is not None or isinstance(value, ast.Name), name)
                if isinstance(node, ast.ExceptHandler):
                    self.assertIsNotNone(node.type, name)
                self.assertNotIsInstance(node, (ast.Set, ast.SetComp, ast.Lambda, ast.GeneratorExp, ast.Global), name)
                if isinstance(node, ast.Constant):
                    self.assertNotIsInstance(node.value, (float, complex, bytes), name)


def bound_at_top_of(node):
    """The names that an import binds."""
    return [one.name for one in node.names]


if __name__ == "__main__":
    unittest.main()
