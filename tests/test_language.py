"""The package keeps to the rules of its language, as far as a walk over its syntax tells."""

import ast
import builtins
import re
import unittest
from pathlib import Path

FOLDER = Path(__file__).resolve().parent.parent / "tautparcel"
FILES = sorted(FOLDER.glob("*.py"))
LET_BUILTINS = set(
    "len range enumerate zip min max sum abs sorted reversed int str bool bytes list tuple dict set isinstance repr any"
    " all divmod iter ValueError".split()
)
LET_METHODS = set(
    "append clear copy count endswith extend find get index insert items join keys pop remove replace reverse split"
    " startswith strip update values partition rpartition add".split()
)
LET_MATH = {"gcd", "lcm", "isqrt"}
BARRED = (
    "type typing typing_extensions enum Enum IntEnum StrEnum Flag IntFlag Generic Protocol ABC ABCMeta namedtuple"
    " NamedTuple TypedDict TYPE_CHECKING abstractmethod register mro elements open input law version_info"
    " with_traceback add_note"
).split()
BARRED_NAMES = (
    "attrgetter breakpoint builtins compile copyright credits delattr dir eval exec exit gc globals help id importlib"
    " license locals methodcaller os quit setattr super vars sys getattr hasattr"
).split()
CHANGING = "append clear extend insert pop remove reverse setdefault update sort add discard".split()
LET_DUNDERS = ["__init__", "__eq__", "__repr__", "__str__", "__len__", "__iter__", "__enter__", "__exit__", "__call__"]
STATEMENTS = (
    ast.Assign, ast.AugAssign, ast.If, ast.While, ast.For, ast.Return, ast.Break, ast.Continue, ast.Pass, ast.Raise,
    ast.Assert, ast.Delete, ast.Try, ast.Expr, ast.FunctionDef, ast.ClassDef, ast.ImportFrom, ast.With,
)


def trees():
    return [(path, path.read_text(encoding="utf-8"), ast.parse(path.read_text(encoding="utf-8"))) for path in FILES]


def defined_names(tree):
    names = []
    for node in tree.body:
        if isinstance(node, (ast.FunctionDef, ast.ClassDef)):
            names.append(node.name)
        if isinstance(node, ast.Assign):
            names += [target.id for target in node.targets]
    return names


def imported_names(tree):
    return [alias.name for node in tree.body if isinstance(node, ast.ImportFrom) for alias in node.names]


def bound_names(function):
    names = [argument.arg for argument in function.args.args]
    for node in ast.walk(function):
        if isinstance(node, ast.Name) and isinstance(node.ctx, ast.Store):
            names.append(node.id)
        if isinstance(node, ast.Lambda):
            names += [argument.arg for argument in node.args.args]
    return names


def root_of(node):
    """The name behind fields, items and calls such as enumerate(..), or None."""
    while True:
        if isinstance(node, ast.Name):
            return node.id
        if isinstance(node, (ast.Attribute, ast.Subscript)):
            node = node.value
        else:
            return None


def walked_names(node):
    """The names of what a loop goes over, also through enumerate, zip and the like, views and choices."""
    if isinstance(node, ast.Name):
        return [node.id]
    if isinstance(node, ast.Call) and getattr(node.func, "id", "") in ("enumerate", "zip", "reversed", "iter"):
        return [name for part in node.args for name in walked_names(part)]
    if isinstance(node, ast.Call) and getattr(node.func, "attr", "") in ("items", "keys", "values"):
        return walked_names(node.func.value)
    if isinstance(node, ast.IfExp):
        return walked_names(node.body) + walked_names(node.orelse)
    if isinstance(node, ast.BoolOp):
        return [name for part in node.values for name in walked_names(part)]
    return []


def names_alike(function):
    """For each name of a function all names that may stand for the same thing, by plain assignments."""
    lots = {}
    for node in ast.walk(function):
        if isinstance(node, ast.Assign) and isinstance(node.value, ast.Name):
            for target in node.targets:
                if isinstance(target, ast.Name):
                    lot = lots.get(target.id, {target.id}) | lots.get(node.value.id, {node.value.id})
                    for name in lot:
                        lots[name] = lot
    return lots


def changed_names(nodes):
    """The names of what is changed in some statements: by a method, an item or a field."""
    found = []
    for node in [inner for top in nodes for inner in ast.walk(top)]:
        if isinstance(node, ast.Call) and getattr(node.func, "attr", "") in CHANGING:
            found.append(root_of(node.func.value) if isinstance(node.func.value, ast.Name) else None)
        if isinstance(node, ast.Subscript) and not isinstance(node.ctx, ast.Load):
            found.append(root_of(node.value) if isinstance(node.value, ast.Name) else None)
        if isinstance(node, ast.AugAssign) and isinstance(node.target, ast.Name):
            found.append(node.target.id)
    return found


def functions_of(tree):
    return [node for node in ast.walk(tree) if isinstance(node, ast.FunctionDef)]


class Language(unittest.TestCase):
    def test_the_folder_holds_modules_alone(self):
        for path in FOLDER.iterdir():
            if path.name != "__pycache__":
                self.assertRegex(path.name, r"^[a-z_][a-z0-9_]*\.py$")

    def test_size_and_signs(self):
        for path, text, tree in trees():
            lines = text.split("\n")
            self.assertLessEqual(len(lines), 400, path)
            self.assertTrue(all(len(line) <= 120 for line in lines), path)
            self.assertTrue(all(sign == "\n" or " " <= sign <= "~" for sign in text), path)
            for node in functions_of(tree):
                self.assertLessEqual(node.end_lineno - node.lineno + 1, 40, (path, node.name))

    def test_imports(self):
        needs = {}
        homes = {path.stem: defined_names(tree) for path, text, tree in trees()}
        for path, text, tree in trees():
            needs[path.stem] = []
            self.assertFalse([node for node in ast.walk(tree) if isinstance(node, ast.Import)], path)
            for node in ast.walk(tree):
                if isinstance(node, ast.ImportFrom):
                    self.assertIn(node, tree.body)
                    self.assertEqual([alias.asname for alias in node.names if alias.asname], [])
                    if node.module == "math":
                        self.assertLessEqual({alias.name for alias in node.names}, LET_MATH)
                        continue
                    package, home = node.module.split(".")
                    self.assertEqual(package, "tautparcel")
                    needs[path.stem].append(home)
                    for alias in node.names:
                        self.assertIn(alias.name, homes[home], path)
            names = defined_names(tree) + imported_names(tree)
            self.assertEqual(len(names), len(set(names)), path)
            for name in imported_names(tree):
                self.assertGreater(len(re.findall(rf"\b{name}\b", text)), 1, (path, name))
        done = []
        while len(done) < len(needs):
            ready = [name for name in needs if name not in done and all(home in done for home in needs[name])]
            self.assertTrue(ready, "modules import from each other")
            done += ready

    def test_statements_and_expressions(self):
        for path, text, tree in trees():
            for node in ast.walk(tree):
                if isinstance(node, ast.stmt):
                    self.assertIsInstance(node, STATEMENTS, (path, node.lineno))
                self.assertNotIsInstance(node, (ast.Set, ast.SetComp, ast.GeneratorExp, ast.NamedExpr, ast.Div), path)
                if isinstance(node, ast.Constant):
                    self.assertNotIsInstance(node.value, (float, complex, bytes), path)
                    if isinstance(node.value, str):
                        self.assertNotIn("%", node.value, path)
                if isinstance(node, ast.Compare):
                    for operator, other in zip(node.ops, node.comparators):
                        if isinstance(operator, (ast.Is, ast.IsNot)):
                            self.assertIn(getattr(other, "value", 0), (None, True, False), (path, node.lineno))
                if isinstance(node, ast.BinOp) and isinstance(node.op, ast.Pow):
                    self.assertTrue(0 <= node.right.value <= 64, path)
                if isinstance(node, (ast.FunctionDef, ast.ClassDef)):
                    told = [getattr(item, "id", "") for item in node.decorator_list]
                    self.assertIn(told, ([], ["property"]), path)

    def test_names(self):
        own = [name for path, text, tree in trees() for name in defined_names(tree)]
        for path, text, tree in trees():
            classes = [node.name for node in tree.body if isinstance(node, ast.ClassDef)]
            for function in functions_of(tree):
                if function.name.startswith("__"):
                    self.assertIn(function.name, LET_DUNDERS)
                names = bound_names(function)
                self.assertEqual([name for name in names if name in classes + imported_names(tree)], [], path)
                self.assertEqual([name for name in [*names, function.name] if hasattr(builtins, name) and
                                  not name.startswith("__")], [], path)
                self.assertEqual([name for name in names if name in BARRED + BARRED_NAMES], [], path)
                read = [n.id for n in ast.walk(function) if isinstance(n, ast.Name) and isinstance(n.ctx, ast.Load)]
                self.assertNotIn("_", read, path)
            code = re.sub(r'""".*?"""', "", text, flags=re.DOTALL)
            code = re.sub(r"#.*", "", code)
            self.assertEqual([word for word in BARRED if re.search(rf"\b{word}\b", code)], [], path)
        self.assertEqual([name for name in own if hasattr(builtins, name)], [])

    def test_calls(self):
        own = {name for path, text, tree in trees() for name in defined_names(tree)}
        methods = {
            node.name for path, text, tree in trees() for top in tree.body if isinstance(top, ast.ClassDef)
            for node in top.body if isinstance(node, ast.FunctionDef)
        }
        for path, text, tree in trees():
            # A function may be passed in and called by the name of its parameter.
            passed = {argument.arg for function in functions_of(tree) for argument in function.args.args}
            for node in ast.walk(tree):
                if isinstance(node, ast.Call):
                    if isinstance(node.func, ast.Name):
                        self.assertTrue(node.func.id in own | LET_BUILTINS | LET_MATH | passed, (path, node.lineno))
                    else:
                        self.assertIn(node.func.attr, methods | LET_METHODS, (path, node.lineno))

    def test_errors(self):
        for path, text, tree in trees():
            for node in ast.walk(tree):
                if isinstance(node, ast.ExceptHandler):
                    for kind in getattr(node.type, "elts", [node.type]):
                        self.assertIn(kind.id, imported_names(tree), path)
                if isinstance(node, ast.Raise):
                    self.assertIsInstance(node.exc, ast.Call, path)
                    self.assertEqual(node.exc.keywords, [])

    def test_module_level(self):
        for path, text, tree in trees():
            for index, node in enumerate(tree.body):
                if isinstance(node, ast.Expr):
                    self.assertEqual(index, 0)
                elif isinstance(node, ast.Assign):
                    ast.literal_eval(ast.unparse(node.value)) if "**" not in ast.unparse(node.value) else None
                else:
                    self.assertIsInstance(node, (ast.ImportFrom, ast.FunctionDef, ast.ClassDef))

    def test_what_a_loop_walks_is_not_changed_in_it(self):
        for path, text, tree in trees():
            for function in functions_of(tree):
                self.assertEqual(self.loops_that_change(function), [], path)

    def loops_that_change(self, function):
        lots = names_alike(function)
        found = []
        for node in ast.walk(function):
            if isinstance(node, ast.For):
                walked = [alike for name in walked_names(node.iter) for alike in lots.get(name, {name})]
                if [name for name in changed_names(node.body) if name in walked]:
                    found.append(node.lineno)
        return found

    def test_loops_that_change_are_found(self):
        bodies = [
            "for x in xs:\n        xs.append(x)", "for k, x in enumerate(xs):\n        xs[k] = 1",
            "ys = xs\n    for x in xs:\n        ys.pop()", "for x in d.items():\n        d[x] = 1",
            "while xs:\n        ys = []\n        for x in xs:\n            ys.append(x)\n        xs = ys",
            "for x in (xs or ys):\n        ys.append(x)", "for x in xs:\n        del xs[0]",
        ]
        for body in bodies:
            self.assertTrue(self.loops_that_change(ast.parse(f"def f(xs, ys, d):\n    {body}\n")), body)
        for body in ("for x in xs:\n        ys.append(x)", "for x in list(xs):\n        xs.append(x)"):
            self.assertEqual(self.loops_that_change(ast.parse(f"def f(xs, ys):\n    {body}\n")), [])

    def test_no_star_in_an_index(self):
        for path, text, tree in trees():
            for node in ast.walk(tree):
                if isinstance(node, ast.Subscript):
                    stars = [part for part in ast.walk(node.slice) if isinstance(part, ast.Starred)]
                    self.assertEqual(stars, [], (path, node.lineno))

    def test_no_attribute_has_the_name_of_a_property_or_a_method(self):
        inside = [node for path, text, tree in trees() for top in tree.body if isinstance(top, ast.ClassDef)
                  for node in top.body if isinstance(node, ast.FunctionDef)]
        names = {node.name for node in inside}
        for path, text, tree in trees():
            for node in ast.walk(tree):
                if isinstance(node, ast.Attribute) and isinstance(node.ctx, ast.Store):
                    self.assertNotIn(node.attr, names, (path, node.lineno))

    def test_generators_are_iterated_at_once(self):
        for path, text, tree in trees():
            for node in ast.walk(tree):
                for child in ast.iter_child_nodes(node):
                    called = isinstance(child, ast.Call) and getattr(child.func, "id", "")
                    if called in ("ray_of", "rows_through", "ways_from"):
                        self.assertIsInstance(node, (ast.For, ast.comprehension), path)


if __name__ == "__main__":
    unittest.main()
