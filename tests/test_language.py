"""Those rules of the small language that a look at the code can tell (not all of them)."""

import ast
import builtins
from pathlib import Path
import unittest

PACKAGE = Path(__file__).resolve().parent.parent / "heldpasts"
FILES = sorted(PACKAGE.glob("*.py"))
LIBRARY = ("heapq", "math", "itertools", "collections")
BUILTINS = """len range enumerate zip min max sum abs sorted reversed int str bool list tuple dict set isinstance ord
repr any all divmod map iter next type super print Exception ValueError TypeError KeyError IndexError LookupError
ZeroDivisionError RuntimeError NotImplementedError StopIteration""".split()
METHODS = """append clear copy count endswith extend find get index insert isalnum isalpha isdigit islower isspace
isupper items join keys ljust lower lstrip partition pop remove replace reverse rfind rjust rpartition rsplit rstrip
setdefault split splitlines startswith strip update upper values zfill bit_length title capitalize swapcase casefold
center expandtabs removeprefix removesuffix rindex isascii isdecimal isnumeric istitle isidentifier isprintable
translate sort add discard appendleft popleft extendleft rotate""".split()
KEYWORDS = (("sorted", "key"), ("sorted", "reverse"), ("min", "default"), ("max", "default"), ("sum", "start"), ("enumerate", "start"))
BARRED = (ast.Div, ast.Global, ast.AsyncFunctionDef, ast.AsyncFor, ast.AsyncWith, ast.Await, ast.Import, ast.AnnAssign)
BARRED_NAMES = """register mro elements open input law version_info with_traceback add_note chr eval exec exit globals
locals vars dir id help compile getattr setattr hasattr delattr os sys gc""".split()


def parsed(path):
    return ast.parse(path.read_text(encoding="utf-8"))


def imports_of(tree):
    return [node for node in tree.body if isinstance(node, ast.ImportFrom)]


def definitions(tree, kinds):
    return [node for node in ast.walk(tree) if isinstance(node, kinds)]


def bound_names(function):
    """The parameters and local variables of a function, those of functions within it, too."""
    arguments = [node.arg for node in definitions(function, ast.arg)]
    return arguments + [node.id for node in definitions(function, ast.Name) if isinstance(node.ctx, ast.Store)]


def is_plain(node, functions):
    """Whether a value at module level is a plain one, or a dict whose values are functions from above."""
    if isinstance(node, ast.Dict) and all(isinstance(value, ast.Name) for value in node.values):
        return {value.id for value in node.values} <= set(functions) and all(is_plain(key, ()) for key in node.keys)
    try:
        ast.literal_eval(node)
    except ValueError:
        return False
    return True


class LanguageTest(unittest.TestCase):
    def each(self):
        return [(path, parsed(path)) for path in FILES]

    def test_the_folder_has_only_these_files(self):
        found = [path for path in PACKAGE.rglob("*") if "__pycache__" not in path.parts]
        self.assertEqual(sorted(found), FILES)
        self.assertTrue(all(path.stem.replace("_", "").isalnum() and path.name.islower() for path in FILES))

    def test_sizes_and_signs(self):
        for path, tree in self.each():
            text = path.read_text(encoding="utf-8")
            lines = text.split("\n")
            self.assertLessEqual(len(lines), 400)
            self.assertLessEqual(max(map(len, lines)), 120)
            self.assertTrue(all(sign == "\n" or " " <= sign <= "~" for sign in text))
            for function in definitions(tree, ast.FunctionDef):
                self.assertLessEqual(function.end_lineno - function.lineno, 39, function.name)

    def test_imports(self):
        defined = {"heldpasts." + path.stem: {node.name for node in parsed(path).body if hasattr(node, "name")}
                   | {target.id for node in parsed(path).body if isinstance(node,
                                                                            ast.Assign) for target in node.targets}
                   for path in FILES}
        for path, tree in self.each():
            for node in imports_of(tree):
                self.assertEqual(node.level, 0)
                self.assertTrue(node.module in LIBRARY or node.module in defined, node.module)
                for alias in node.names:
                    self.assertIsNone(alias.asname)
                    self.assertTrue(node.module in LIBRARY or alias.name in defined[node.module], alias.name)
                    used = [name for name in definitions(tree, ast.Name) if name.id == alias.name]
                    self.assertTrue(used, alias.name + " is not used")
            self.assertEqual(len(definitions(tree, ast.ImportFrom)), len(imports_of(tree)))

    def test_no_two_files_import_from_each_other(self):
        left = {"heldpasts." + path.stem: {node.module for node in imports_of(parsed(path))} - set(LIBRARY)
                for path in FILES}
        while left:
            free = [name for name, needed in left.items() if not needed & set(left)]
            self.assertTrue(free, left)
            left = {name: needed for name, needed in left.items() if name not in free}

    def test_module_level(self):
        for path, tree in self.each():
            names = [alias.name for node in imports_of(tree) for alias in node.names]
            for node in tree.body:
                if isinstance(node, ast.Assign):
                    self.assertEqual(len(node.targets), 1)
                    self.assertTrue(is_plain(node.value, names), ast.unparse(node))
                    names.append(node.targets[0].id)
                elif isinstance(node, (ast.FunctionDef, ast.ClassDef)):
                    names.append(node.name)
                else:
                    self.assertIsInstance(node, (ast.ImportFrom, ast.Expr))
            self.assertEqual(len(names), len(set(names)))
            self.assertFalse(set(names) & set(dir(builtins)))

    def test_names(self):
        for path, tree in self.each():
            taken = {alias.name for node in imports_of(tree) for alias in node.names}
            taken |= {node.name for node in tree.body if isinstance(node, ast.ClassDef)}
            for function in definitions(tree, ast.FunctionDef):
                for name in bound_names(function):
                    self.assertNotIn(name, taken, function.name)
                    self.assertNotIn(name, dir(builtins), function.name)
                    self.assertFalse(name.startswith("_") and name != "_", name)
            for node in definitions(tree, ast.Name):
                self.assertTrue(node.id in BUILTINS or node.id not in dir(builtins), node.id)
                self.assertNotIn(node.id, BARRED_NAMES)
                self.assertFalse(node.id == "_" and isinstance(node.ctx, ast.Load))

    def test_methods(self):
        own = {method.name for path in FILES for kind in definitions(parsed(path), ast.ClassDef) for method in kind.body
               if isinstance(method, ast.FunctionDef)}
        for path, tree in self.each():
            for call in definitions(tree, ast.Call):
                if isinstance(call.func, ast.Attribute):
                    self.assertIn(call.func.attr, set(METHODS) | own)

    def test_keywords_of_builtins(self):
        for path, tree in self.each():
            for call in definitions(tree, ast.Call):
                if isinstance(call.func, ast.Name) and call.func.id in BUILTINS:
                    for word in call.keywords:
                        self.assertIn((call.func.id, word.arg), KEYWORDS)
                        self.assertTrue(word.arg != "reverse" or isinstance(word.value, ast.Constant))

    def test_sets_are_written_where_they_are_asked(self):
        for path, tree in self.each():
            asked = [argument for call in definitions(tree, ast.Call) if isinstance(call.func, ast.Name)
                     and call.func.id in ("sorted", "len") for argument in call.args]
            asked += [side for node in asked if isinstance(node, ast.BinOp) for side in (node.left, node.right)]
            for call in definitions(tree, ast.Call):
                if isinstance(call.func, ast.Name) and call.func.id == "set":
                    self.assertIn(call, asked)
            self.assertEqual(definitions(tree, (ast.Set, ast.SetComp, ast.GeneratorExp)), [])

    def test_statements_and_values(self):
        for path, tree in self.each():
            self.assertEqual([ast.unparse(node) for node in definitions(tree, BARRED)], [])
            for function in definitions(tree, (ast.FunctionDef, ast.ClassDef)):
                self.assertEqual(function.decorator_list, [])
            for node in definitions(tree, ast.Constant):
                self.assertNotIsInstance(node.value, (float, complex))
                if isinstance(node.value, str):
                    self.assertNotIn("%", node.value)
            for node in definitions(tree, ast.Compare):
                for sign, other in zip(node.ops, node.comparators):
                    if isinstance(sign, (ast.Is, ast.IsNot)):
                        singles = isinstance(other, ast.Constant) and other.value in (None, True, False)
                        self.assertTrue(singles or ast.unparse(node.left).startswith("type("), ast.unparse(node))


if __name__ == "__main__":
    unittest.main()
