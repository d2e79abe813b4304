"""The form of the code: those of the rules L1 to L28 that can be asked of the syntax tree in a few words."""

import ast
import builtins
import pathlib
import re
import unittest

FOLDER = pathlib.Path(__file__).resolve().parent.parent / "neverfour"
FILES = sorted(FOLDER.glob("*.py"))

LIBRARY = {
    "heapq": {"heappush", "heappop", "heapify", "heapreplace", "heappushpop"},
    "math": {"gcd", "lcm", "isqrt", "comb", "perm", "factorial"},
}
LET_BUILTINS = set(
    "len range enumerate zip min max sum abs sorted reversed int str bool list tuple dict set isinstance ord repr any "
    "all divmod ValueError KeyError IndexError LookupError".split()
)
LET_METHODS = set(
    "append clear copy count endswith extend find get index insert isalnum isalpha isdigit islower isspace isupper "
    "items join keys ljust lower lstrip partition pop remove replace reverse rfind rjust rpartition rsplit rstrip "
    "setdefault split splitlines startswith strip update upper values zfill bit_length add discard".split()
)
BARRED = set(
    "register mro elements open input law version_info with_traceback add_note attrgetter breakpoint builtins compile "
    "copyright credits delattr dir eval exec exit gc getattr globals hasattr help id importlib license locals "
    "methodcaller os quit setattr super vars sys typing enum Enum Flag Generic Protocol ABC namedtuple".split()
)
BARRED_WORDS = re.compile(r"\b(type|typing|enum|Enum|Flag|Generic|Protocol|ABC|NamedTuple|TypedDict)\b|dataclass|overload")
CHANGING = {"append", "clear", "extend", "insert", "pop", "remove", "reverse", "setdefault", "update", "add", "discard"}
BARRED_NODES = (
    ast.AsyncFunctionDef, ast.AsyncFor, ast.AsyncWith, ast.Await, ast.Import, ast.Global, ast.Div, ast.MatMult,
    ast.Yield, ast.YieldFrom,
)


def stripped(tree):
    """The tree without its docstrings."""
    for node in ast.walk(tree):
        body = getattr(node, "body", None)
        if isinstance(body, list) and body and isinstance(body[0], ast.Expr):
            if isinstance(body[0].value, ast.Constant) and isinstance(body[0].value.value, str):
                node.body = body[1:]
    return tree


def bound(tree):
    """Each name that is bound anywhere in the tree."""
    for node in ast.walk(tree):
        if isinstance(node, ast.Name) and not isinstance(node.ctx, ast.Load):
            yield node.id
        elif isinstance(node, (ast.FunctionDef, ast.ClassDef)):
            yield node.name
        elif isinstance(node, ast.arg):
            yield node.arg
        elif isinstance(node, ast.alias):
            yield node.asname or node.name


class Language(unittest.TestCase):

    @classmethod
    def setUpClass(cls):
        cls.texts = {path.name: path.read_text(encoding="utf-8") for path in FILES}
        cls.trees = {name: stripped(ast.parse(text)) for name, text in cls.texts.items()}

    def nodes(self, *kinds):
        for name, tree in self.trees.items():
            for node in ast.walk(tree):
                if isinstance(node, kinds):
                    yield (name, getattr(node, "lineno", 0)), node

    def test_files(self):
        for path in FOLDER.iterdir():
            if path.name != "__pycache__":
                self.assertRegex(path.name, r"\A[a-z_]+\.py\Z")
        self.assertIn("__init__.py", self.texts)
        for name, text in self.texts.items():
            self.assertRegex(text, r"\A[\n -~]*\Z", name)
            lines = text.split("\n")
            self.assertLessEqual(len(lines), 400, name)
            self.assertLessEqual(max(len(line) for line in lines), 120, name)

    def test_functions(self):
        for at, node in self.nodes(ast.FunctionDef):
            self.assertLessEqual(node.end_lineno - node.lineno + 1, 40, at)
            self.assertEqual(node.decorator_list, [], at)
            self.assertTrue(node.name == "__init__" or not node.name.startswith("__"), at)

    def test_nodes(self):
        for at, node in self.nodes(*BARRED_NODES):
            self.fail((at, node))
        for at, node in self.nodes(ast.Constant):
            self.assertNotIsInstance(node.value, (float, complex, bytes), at)
            if isinstance(node.value, str):
                self.assertNotIn("%", node.value, at)
        for at, node in self.nodes(ast.BinOp):
            if isinstance(node.op, ast.Pow):
                self.assertIsInstance(node.right, ast.Constant, at)
        for at, node in self.nodes(ast.Compare):
            for operator, side in zip(node.ops, node.comparators):
                if isinstance(operator, (ast.Is, ast.IsNot)):
                    self.assertIsInstance(side, ast.Constant, at)
                    self.assertIn(side.value, (None, True, False), at)

    def test_module_level(self):
        for name, tree in self.trees.items():
            plain = True
            for node in tree.body:
                if isinstance(node, ast.ImportFrom):
                    self.assertTrue(plain, name)
                    continue
                plain = False
                self.assertIsInstance(node, (ast.FunctionDef, ast.ClassDef, ast.Assign), name)
                if isinstance(node, ast.Assign):
                    self.assertEqual(len(node.targets), 1)
                    self.plain_value(node.value, tree, node.lineno)

    def plain_value(self, node, tree, line):
        """A constant, a tuple of plain values, or a dict of these and of functions that are defined above."""
        if isinstance(node, ast.Dict):
            for part in node.keys:
                self.assertIsInstance(part, ast.Constant, line)
            for part in node.values:
                self.assertNotIsInstance(part, ast.Dict, line)
                if isinstance(part, ast.Name):
                    above = [top.name for top in tree.body if isinstance(top, ast.FunctionDef) and top.lineno < line]
                    self.assertIn(part.id, above, line)
                else:
                    self.plain_value(part, tree, line)
        elif isinstance(node, ast.Tuple):
            for part in node.elts:
                self.assertNotIsInstance(part, ast.Dict, line)
                self.plain_value(part, tree, line)
        else:
            self.assertIsInstance(node, ast.Constant, line)

    def test_tables_are_only_read(self):
        for name, tree in self.trees.items():
            tables = [top.targets[0].id for top in tree.body if isinstance(top, ast.Assign) and isinstance(top.value, ast.Dict)]
            for node in ast.walk(tree):
                for part in ast.iter_child_nodes(node):
                    if isinstance(part, ast.Name) and part.id in tables and isinstance(part.ctx, ast.Load):
                        read = isinstance(node, ast.Subscript) and isinstance(node.ctx, ast.Load)
                        copied = isinstance(node, ast.Call) and node.func.id in ("tuple", "list", "dict", "len", "sorted")
                        self.assertTrue(read or copied or isinstance(node, ast.Compare), (name, part.lineno))

    def test_imports(self):
        graph = {}
        for (name, line), node in self.nodes(ast.ImportFrom):
            self.assertEqual(node.level, 0)
            for alias in node.names:
                self.assertIsNone(alias.asname, name)
                if node.module in LIBRARY:
                    self.assertIn(alias.name, LIBRARY[node.module])
                else:
                    package, module = node.module.split(".")
                    self.assertEqual(package, "neverfour")
                    told = [top.name for top in self.trees[module + ".py"].body if hasattr(top, "name")]
                    told += [top.targets[0].id for top in self.trees[module + ".py"].body if isinstance(top, ast.Assign)]
                    self.assertIn(alias.name, told, name)
                    graph.setdefault(name, set()).add(module + ".py")
                used = len(re.findall(r"\b%s\b" % alias.name, self.texts[name]))
                self.assertGreater(used, 1, (name, alias.name))
        for start in graph:
            reached, ahead = set(), [start]
            while ahead:
                for other in graph.get(ahead.pop(), ()):
                    if other not in reached:
                        reached.add(other)
                        ahead.append(other)
            self.assertNotIn(start, reached)

    def test_names(self):
        for name, tree in self.trees.items():
            for word in bound(tree):
                if word not in ("_", "__init__"):
                    self.assertNotIn(word, BARRED, name)
                    self.assertFalse(hasattr(builtins, word), (name, word))
                    self.assertRegex(word, r"\A_?[A-Za-z][A-Za-z0-9_]*\Z", name)
            top = [node.name for node in tree.body if isinstance(node, ast.ClassDef)]
            for node in tree.body:
                if isinstance(node, ast.ImportFrom):
                    top += [alias.name for alias in node.names]
            for function in ast.walk(tree):
                if isinstance(function, ast.FunctionDef):
                    inner = [word for part in function.body for word in bound(part)]
                    inner += [argument.arg for argument in function.args.args]
                    self.assertEqual([word for word in inner if word in top], [], (name, function.name))
        for at, node in self.nodes(ast.Name):
            self.assertFalse(node.id == "_" and isinstance(node.ctx, ast.Load), at)
            if isinstance(node.ctx, ast.Load) and hasattr(builtins, node.id):
                self.assertIn(node.id, LET_BUILTINS, at)

    def test_words(self):
        for name, tree in self.trees.items():
            for node in ast.walk(tree):
                words = [getattr(node, "id", ""), getattr(node, "attr", ""), getattr(node, "name", "")]
                words += [node.value] if isinstance(node, ast.Constant) and isinstance(node.value, str) else []
                for word in words:
                    if isinstance(word, str):
                        self.assertIsNone(BARRED_WORDS.search(word), (name, word))

    def test_methods_and_attributes(self):
        own, stored = set(), set()
        for at, node in self.nodes(ast.ClassDef):
            own |= {part.name for part in node.body if isinstance(part, ast.FunctionDef)}
        for at, node in self.nodes(ast.Attribute):
            if isinstance(node.ctx, ast.Store):
                stored.add(node.attr)
                self.assertIsInstance(node.value, ast.Name, at)
        for kind in (str, int, list, dict, set, bytes, tuple):
            self.assertEqual([word for word in (own | stored) - {"__init__"} if hasattr(kind, word)], [])
        # A name is a method or an attribute, not both; two pairs of classes are known in which it is.
        self.assertLessEqual(own & stored, {"least", "lots"})
        named = []
        for at, node in self.nodes(ast.Attribute):
            if ast.unparse(node) == "self.__class__.__name__":
                named += [node, node.value]
            elif isinstance(node.ctx, ast.Load) and node not in named:
                self.assertIn(node.attr, own | stored | LET_METHODS, at)

    def test_calls(self):
        for at, node in self.nodes(ast.Call):
            self.assertIsInstance(node.func, (ast.Name, ast.Attribute), at)
            if isinstance(node.func, ast.Name) and hasattr(builtins, node.func.id):
                for keyword in node.keywords:
                    self.assertIn(keyword.arg, ("key", "reverse", "default", "start", "strict"), at)

    def test_loops_do_not_change_what_they_go_over(self):
        for at, node in self.nodes(ast.For):
            over = {ast.unparse(part) for part in ast.walk(node.iter) if isinstance(part, (ast.Name, ast.Attribute))}
            for part in [inner for row in node.body for inner in ast.walk(row)]:
                if isinstance(part, ast.Call) and isinstance(part.func, ast.Attribute) and part.func.attr in CHANGING:
                    self.assertNotIn(ast.unparse(part.func.value), over, at)
                if isinstance(part, ast.Subscript) and not isinstance(part.ctx, ast.Load):
                    self.assertNotIn(ast.unparse(part.value), over, at)

    def test_sets(self):
        let = set()
        for at, node in self.nodes(ast.Call):
            if isinstance(node.func, ast.Name) and node.func.id in ("sorted", "len"):
                let |= {id(argument) for argument in node.args}
        for at, node in self.nodes(ast.Compare):
            let |= {id(side) for side in node.comparators}
        for at, node in self.nodes(ast.Set, ast.SetComp):
            self.assertIn(id(node), let, at)
        for at, node in self.nodes(ast.Call):
            if isinstance(node.func, ast.Name) and node.func.id == "set":
                self.assertIn(id(node), let, at)

    def test_errors(self):
        for at, node in self.nodes(ast.ExceptHandler):
            self.assertIsInstance(node.type, ast.Name, at)
            self.assertFalse(hasattr(builtins, node.type.id), at)
        for at, node in self.nodes(ast.Raise):
            self.assertIsInstance(node.exc, ast.Call, at)
            self.assertIsInstance(node.exc.func, ast.Name, at)


if __name__ == "__main__":
    unittest.main()
