"""Those rules of the language that a look at the package's files can tell."""

import ast
import builtins
import pathlib

from tests.cases import Case

FOLDER = pathlib.Path(__file__).resolve().parent.parent / "twofarplayers"
BUILTINS = set(
    "len range enumerate zip min max sum abs sorted reversed int str bool list tuple dict set isinstance ord repr any all "
    "divmod pow iter next map type Exception ValueError TypeError KeyError IndexError LookupError property staticmethod "
    "classmethod super NotImplemented".split())
NOT_USED = set(
    "register mro elements open input law version_info with_traceback add_note compile copyright credits dir eval exec exit "
    "gc globals help id importlib license locals os quit vars sys".split())
LIBRARY = {"math": ("gcd",)}
STATEMENTS = (ast.AsyncFunctionDef, ast.AsyncFor, ast.AsyncWith, ast.Await, ast.Global, ast.Import, ast.Div)


def files():
    """The files of the package, as (name, text, tree)."""
    for path in sorted(FOLDER.glob("*.py")):
        text = path.read_text(encoding="utf-8")
        yield path.stem, text, ast.parse(text)


def bound_names(tree):
    """All names that a file gives to anything."""
    for node in ast.walk(tree):
        if isinstance(node, (ast.FunctionDef, ast.ClassDef)):
            yield node.name
        elif isinstance(node, ast.arg):
            yield node.arg
        elif isinstance(node, ast.Name) and isinstance(node.ctx, ast.Store):
            yield node.id
        elif isinstance(node, ast.Attribute):
            yield node.attr
        elif isinstance(node, ast.keyword) and node.arg:
            yield node.arg


def asks_of_none(test, names):
    """Whether a test asks nothing but whether attributes, or names that are among these, are None."""
    if isinstance(test, ast.BoolOp):
        return all(asks_of_none(part, names) for part in test.values)
    if isinstance(test, ast.UnaryOp) and isinstance(test.op, ast.Not):
        return asks_of_none(test.operand, names)
    if not isinstance(test, ast.Compare) or len(test.ops) != 1 or not isinstance(test.ops[0], (ast.Is, ast.IsNot)):
        return False
    right = test.comparators[0]
    if not isinstance(right, ast.Constant) or right.value is not None:
        return False
    return isinstance(test.left, ast.Attribute) or (isinstance(test.left, ast.Name) and test.left.id in names)


def top_names(tree):
    """The functions, classes and values that a file defines itself."""
    for node in tree.body:
        if isinstance(node, (ast.FunctionDef, ast.ClassDef)):
            yield node.name
        elif isinstance(node, ast.Assign):
            yield node.targets[0].id


class Source(Case):
    def test_files(self):
        for path in FOLDER.iterdir():
            if path.name != "__pycache__":
                self.assertRegex(path.name, r"\A[a-z_][a-z0-9_]*\.py\Z")

    def test_sizes_and_signs(self):
        for name, text, tree in files():
            lines = text.split("\n")
            self.assertLessEqual(len(lines), 400, name)
            self.assertLessEqual(max(map(len, lines)), 120, name)
            self.assertLessEqual(set(text), {chr(sign) for sign in range(32, 127)} | {"\n"}, name)
            for node in ast.walk(tree):
                if isinstance(node, ast.FunctionDef):
                    self.assertLessEqual(node.end_lineno - node.lineno + 1, 40, node.name)

    def test_imports(self):
        trees = {name: tree for name, _, tree in files()}
        needs = {name: set() for name in trees}
        for name, tree in trees.items():
            for node in ast.walk(tree):
                # Of the library these alone may be imported, and are not of the package.
                if isinstance(node, ast.ImportFrom) and node.module in LIBRARY:
                    self.assertLessEqual({part.name for part in node.names}, set(LIBRARY[node.module]))
                    self.assertFalse([part.asname for part in node.names if part.asname])
                elif isinstance(node, ast.ImportFrom):
                    package, _, module = node.module.partition(".")
                    self.assertEqual((package, node.level), ("twofarplayers", 0))
                    self.assertLessEqual({part.name for part in node.names}, set(top_names(trees[module])))
                    needs[name].add(module)
        while needs:
            free = [name for name in needs if not needs[name] & set(needs)]
            self.assertTrue(free, "files that import from each other")
            needs = {name: needs[name] for name in needs if name not in free}

    def test_statements(self):
        for name, _, tree in files():
            for node in ast.walk(tree):
                self.assertNotIsInstance(node, STATEMENTS, name)
                if isinstance(node, ast.Constant):
                    self.assertNotIsInstance(node.value, (float, complex), name)
                # Laws can be compared, and so these take lists.
                if isinstance(node, ast.Call) and isinstance(node.func, ast.Name):
                    if node.func.id in ("any", "all", "min", "max", "sum", "sorted"):
                        self.assertNotIsInstance(node.args[0], ast.GeneratorExp, name)
                if isinstance(node, ast.BinOp) and isinstance(node.op, ast.Pow):
                    self.assertIsInstance(node.right, ast.Constant, name)

    def test_values_of_modules(self):
        for name, _, tree in files():
            for node in tree.body:
                if isinstance(node, ast.Assign):
                    # Lists and dicts hold no lists and dicts, and tuples neither.
                    inner = [part for part in ast.walk(node.value) if part is not node.value]
                    self.assertFalse([part for part in inner if isinstance(part, (ast.List, ast.Dict, ast.Set))], name)

    def test_names(self):
        # Python itself sets _ there, in a session, and in examples that are tested.
        known = set(dir(builtins)) - {"_"}
        for name, _, tree in files():
            bound = set(bound_names(tree))
            self.assertFalse(bound & NOT_USED, name)
            self.assertFalse(bound & known, name)
            used = {node.id for node in ast.walk(tree) if isinstance(node, ast.Name) and isinstance(node.ctx, ast.Load)}
            self.assertLessEqual(used & known, BUILTINS, name)

    def test_no_local_name_of_an_import_or_a_class(self):
        for name, _, tree in files():
            taken = {part.name for node in tree.body if isinstance(node, ast.ImportFrom) for part in node.names}
            taken |= {node.name for node in tree.body if isinstance(node, ast.ClassDef)}
            for node in ast.walk(tree):
                if isinstance(node, ast.arg):
                    self.assertNotIn(node.arg, taken, name)
                elif isinstance(node, ast.Name) and isinstance(node.ctx, ast.Store):
                    self.assertNotIn(node.id, taken, name)

    def test_ends_of_blocks(self):
        exits = [node for _, _, tree in files() for node in ast.walk(tree)
                 if isinstance(node, ast.FunctionDef) and node.name == "__exit__"]
        self.assertTrue(exits)
        for node in exits:
            _, kind, value, trace = [part.arg for part in node.args.args]
            names = [part for part in ast.walk(node) if isinstance(part, ast.Name)]
            read = {part.id for part in names if isinstance(part.ctx, ast.Load)}
            self.assertFalse(read & {value, trace})
            asked = {kind} | {part.id for part in names if isinstance(part.ctx, ast.Store)}
            for part in ast.walk(node):
                self.assertNotIsInstance(part, (ast.Call, ast.For, ast.While, ast.Raise, ast.Subscript, ast.IfExp))
                # Some classes can be compared, or measured: so nothing stands alone, or beside a literal, as a test.
                if isinstance(part, ast.If):
                    self.assertTrue(asks_of_none(part.test, asked), f"row {part.lineno}")
