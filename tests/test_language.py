"""The rules for the code of the package that can be seen in its files alone."""

import ast
import pathlib
import re
import unittest
import warnings

FOLDER = pathlib.Path(__file__).parent.parent / "termstill"
FILES = sorted(FOLDER.glob("*.py"))
BUILTINS = set(
    "len range enumerate zip min max sum abs sorted reversed int str bool list tuple dict set isinstance ord repr any "
    "all divmod iter next map ValueError KeyError NotImplemented TypeError".split()
)
OTHER_BUILTINS = set(dir(__import__("builtins"))) - BUILTINS
METHODS = set(
    "append clear copy count endswith extend find get index insert isalnum isalpha isdigit islower isspace isupper "
    "items join keys ljust lower lstrip partition pop remove replace reverse rfind rjust rpartition rsplit rstrip "
    "setdefault split splitlines startswith strip update upper values zfill bit_length add discard".split()
)
DOUBLE = set("__init__ __eq__ __str__ __len__ __add__".split())
BARRED = (
    ast.Global, ast.AsyncFunctionDef, ast.AsyncFor, ast.AsyncWith, ast.Await, ast.AnnAssign, ast.Div, ast.With,
    ast.Yield, ast.ExceptHandler,
)
WORDS = re.compile(
    r"\b(type|typing|enum|Enum|Flag|Generic|Protocol|ABC|namedtuple|NamedTuple|register|mro|elements|open|input|law|"
    r"version_info|with_traceback|add_note|_wall|_WallAttr)\b|dataclass|overload|contextmanager"
)


def trees():
    for path in FILES:
        source = path.read_text(encoding="ascii")
        with warnings.catch_warnings():
            warnings.simplefilter("error")
            yield path.name, source, ast.parse(source)


def without_docstring(body):
    if body and isinstance(body[0], ast.Expr) and isinstance(body[0].value, ast.Constant):
        return body[1:]
    return body


class Files(unittest.TestCase):
    def test_the_folder_contains_nothing_else(self):
        names = {path.name for path in FOLDER.iterdir() if path.name != "__pycache__"}
        self.assertEqual(names, {path.name for path in FILES})
        self.assertIn("__init__.py", names)
        for name in names - {"__init__.py"}:
            self.assertRegex(name, r"^[a-z][a-z0-9_]*\.py$")

    def test_characters_and_sizes(self):
        for name, source, tree in trees():
            self.assertRegex(source, r"^[ -~\n]*\Z", name)
            lines = source.split("\n")
            self.assertLess(len(lines), 400, name)
            self.assertLessEqual(max(map(len, lines)), 120, name)
            for node in ast.walk(tree):
                if isinstance(node, ast.FunctionDef):
                    self.assertLessEqual(node.end_lineno - node.lineno + 1, 40, (name, node.name))

    def test_module_level(self):
        for name, _, tree in trees():
            seen, bound = False, []
            for node in without_docstring(tree.body):
                if isinstance(node, ast.ImportFrom):
                    self.assertFalse(seen, name)
                    self.assertTrue(re.match(r"termstill\.\w+$|heapq$|math$|itertools$", node.module), name)
                    self.assertEqual(node.level, 0)
                    self.assertFalse([alias for alias in node.names if alias.asname or alias.name == "*"])
                    bound += [alias.name for alias in node.names]
                    continue
                seen = True
                self.assertIsInstance(node, (ast.FunctionDef, ast.ClassDef, ast.Assign), name)
                if isinstance(node, ast.Assign):
                    self.assertEqual([type(target) for target in node.targets], [ast.Name])
                    ast.literal_eval(node.value)
                bound.append(node.targets[0].id if isinstance(node, ast.Assign) else node.name)
            self.assertEqual(len(bound), len(set(bound)), name)
            inner = [node for node in ast.walk(tree) if isinstance(node, (ast.Import, ast.ImportFrom, ast.ClassDef))]
            self.assertTrue(all(node in tree.body for node in inner), name)


class Code(unittest.TestCase):
    def test_statements_and_expressions(self):
        for name, _, tree in trees():
            for node in ast.walk(tree):
                self.assertNotIsInstance(node, BARRED, name)
                if isinstance(node, ast.Constant):
                    self.assertNotIsInstance(node.value, (float, complex, bytes), name)
                    if isinstance(node.value, str):
                        self.assertNotIn(chr(37), node.value, name)
                if isinstance(node, (ast.FunctionDef, ast.ClassDef)):
                    for decorator in node.decorator_list:
                        self.assertIn(ast.unparse(decorator), ("classmethod", "staticmethod", "property"), name)

    def test_names(self):
        for name, source, tree in trees():
            for node in ast.walk(tree):
                if isinstance(node, ast.Name):
                    self.assertNotIn(node.id, OTHER_BUILTINS - {"classmethod", "staticmethod", "property"}, name)
                    if isinstance(node.ctx, ast.Store):
                        self.assertNotIn(node.id, BUILTINS, name)
                if isinstance(node, ast.arg):
                    self.assertNotIn(node.arg, BUILTINS | OTHER_BUILTINS, name)
                if isinstance(node, ast.FunctionDef) and node.name.startswith("__"):
                    self.assertIn(node.name, DOUBLE, name)
                for word in (getattr(node, "id", ""), getattr(node, "attr", ""), getattr(node, "arg", "")):
                    self.assertIsNone(WORDS.search(word or ""), (name, word))
                if isinstance(node, ast.Constant) and isinstance(node.value, str) and " " not in node.value:
                    self.assertIsNone(WORDS.search(node.value), (name, node.value))

    def test_no_local_name_is_that_of_a_class_or_an_import(self):
        for name, _, tree in trees():
            taken = {alias.name for node in tree.body if isinstance(node, ast.ImportFrom) for alias in node.names}
            taken |= {node.name for node in tree.body if isinstance(node, ast.ClassDef)}
            for node in ast.walk(tree):
                if isinstance(node, ast.arg):
                    self.assertNotIn(node.arg, taken, name)
                if isinstance(node, ast.Name) and isinstance(node.ctx, ast.Store):
                    self.assertNotIn(node.id, taken, name)

    def test_methods_that_are_called(self):
        own = {"read", "TermError"}
        for _, _, tree in trees():
            own |= {node.name for node in ast.walk(tree) if isinstance(node, ast.FunctionDef)}
        for name, _, tree in trees():
            for node in ast.walk(tree):
                if isinstance(node, ast.Call) and isinstance(node.func, ast.Attribute):
                    self.assertIn(node.func.attr, METHODS | own, name)
                    if node.func.attr not in own:
                        self.assertEqual(node.keywords, [], name)

    def test_what_the_double_underscore_methods_do(self):
        for name, _, tree in trees():
            for node in ast.walk(tree):
                if not isinstance(node, ast.FunctionDef):
                    continue
                rows = without_docstring(node.body)
                if node.name in ("__eq__", "__str__", "__len__"):
                    self.assertEqual([type(row) for row in rows], [ast.Return], name)
                if node.name == "__init__":
                    self.assertFalse([row for row in ast.walk(node) if isinstance(row, ast.Return)], name)

    def test_what_happens_at_last(self):
        """A `finally` only assigns plain names to attributes, and these names stand ahead of the `try`."""
        for name, _, tree in trees():
            for function in ast.walk(tree):
                if not isinstance(function, ast.FunctionDef):
                    continue
                for node in [row for row in ast.walk(function) if isinstance(row, ast.Try)]:
                    self.assertTrue(node.finalbody)
                    assigned = {arg.arg for arg in function.args.args}
                    for row in function.body[: function.body.index(node)]:
                        assigned |= {part.id for part in ast.walk(row) if isinstance(part, ast.Name)}
                    for row in node.finalbody:
                        self.assertIsInstance(row, ast.Assign, name)
                        self.assertEqual([type(target) for target in row.targets], [ast.Attribute], name)
                        self.assertIn(row.value.id, assigned, name)

    def test_properties_only_read(self):
        """A property is one `return`, and no other class assigns an attribute of its name."""
        properties, assigned = {}, {}
        for name, _, tree in trees():
            for made in [row for row in tree.body if isinstance(row, ast.ClassDef)]:
                for node in ast.walk(made):
                    if isinstance(node, ast.FunctionDef) and node.decorator_list:
                        if ast.unparse(node.decorator_list[0]) == "property":
                            rows = without_docstring(node.body)
                            self.assertEqual([type(row) for row in rows], [ast.Return], name)
                            properties[node.name] = made.name
                    if isinstance(node, ast.Attribute) and isinstance(node.ctx, ast.Store):
                        assigned[node.attr] = made.name
        self.assertEqual(set(properties), {"rule", "day", "story", "last", "alive"})
        self.assertFalse(set(properties) & set(assigned))

    def test_generators_are_not_given_to_builtins(self):
        for name, _, tree in trees():
            self.assertFalse([node for node in ast.walk(tree) if isinstance(node, ast.GeneratorExp)], name)

    def test_imports_are_used_and_lead_nowhere_back(self):
        reached = {}
        for name, _, tree in trees():
            imports = [node for node in tree.body if isinstance(node, ast.ImportFrom)]
            reached[f"termstill.{name[:-3]}"] = {node.module for node in imports}
            used = {node.id for node in ast.walk(tree) if isinstance(node, ast.Name)}
            for node in imports:
                for alias in node.names:
                    self.assertIn(alias.name, used, name)
        done = set()
        while len(done) < len(reached):
            free = {name for name, needed in reached.items() if name not in done and needed & set(reached) <= done}
            self.assertTrue(free, "files import from each other")
            done |= free
