"""The files of the package keep to the subset of the language, as far as a syntax tree shows it."""

import ast
import builtins
import os
import re
import unittest

from tests.walks import left_unwalked, old_walks

ROOT = os.path.join(os.path.dirname(os.path.dirname(os.path.abspath(__file__))), "guardrungs")
BUILTINS = set(
    "len range enumerate zip min max sum abs sorted reversed int str bool list tuple dict set isinstance ord repr any "
    "all divmod pow iter next Exception ValueError TypeError KeyError IndexError LookupError ZeroDivisionError "
    "ArithmeticError OverflowError RuntimeError NotImplementedError AttributeError NotImplemented super property "
    "classmethod staticmethod".split())
METHODS = set(
    "append clear copy count endswith extend find get index insert isalnum isalpha isdigit islower isspace isupper "
    "items join keys ljust lower lstrip partition pop remove replace reverse rfind rjust rpartition rsplit rstrip "
    "setdefault split splitlines startswith strip update upper values zfill bit_length add discard".split())
DUNDERS = set(
    "__init__ __eq__ __repr__ __str__ __len__ __enter__ __exit__ __call__ __iter__ __add__ __mul__ __contains__ "
    "__getitem__".split())
BARRED = set(
    "mro elements open input law version_info with_traceback add_note register attrgetter breakpoint builtins compile "
    "delattr dir eval exec exit gc getattr globals hasattr help id importlib locals methodcaller os quit setattr type "
    "vars sys typing enum dataclass".split())
WORDS = re.compile(
    r"\b(type|typing|enum|Enum|IntEnum|StrEnum|Flag|Generic|Protocol|ABC|ABCMeta|namedtuple|NamedTuple|TypedDict|"
    r"abstractmethod)\b|dataclass|overload|contextmanager|_wall|Meta\b|\(type\)|metaclass=")
LIBRARY = {"heapq": {"heappush", "heappop", "heapify", "heapreplace", "heappushpop"}, "math": {"gcd", "lcm", "isqrt"}}
NODES = (
    ast.AsyncFunctionDef, ast.AsyncFor, ast.AsyncWith, ast.Await, ast.Global, ast.GeneratorExp, ast.Lambda, ast.Div,
    ast.Set, ast.NamedExpr, ast.AnnAssign, ast.Try, ast.Match, ast.Nonlocal, ast.MatMult)


def files():
    return sorted(name for name in os.listdir(ROOT) if name.endswith(".py"))


def source(name):
    with open(os.path.join(ROOT, name), encoding="ascii") as file:
        return file.read()


class TestFiles(unittest.TestCase):
    def test_nothing_else_in_the_folder(self):
        left = [name for name in os.listdir(ROOT) if not name.endswith(".py") and name != "__pycache__"]
        self.assertEqual(left, [])
        self.assertLessEqual(len(files()), 100)

    def test_characters_and_sizes(self):
        for name in files():
            text = source(name)
            self.assertTrue(all(sign == "\n" or " " <= sign <= "~" for sign in text), name)
            lines = text.split("\n")
            self.assertLessEqual(len(lines), 400, name)
            for number, line in enumerate(lines, 1):
                self.assertLessEqual(len(line), 120, f"{name}:{number}")
                self.assertEqual(line, line.rstrip(), f"{name}:{number}")
            for node in ast.walk(ast.parse(text)):
                if isinstance(node, ast.FunctionDef):
                    self.assertLessEqual(node.end_lineno - node.lineno + 1, 40, f"{name}:{node.name}")

    def test_every_function_says_what_it_does_in_few_levels(self):
        for name in files():
            self.assertIsNotNone(ast.get_docstring(ast.parse(source(name))), name)


class TestSubset(unittest.TestCase):
    def each(self):
        for name in files():
            yield name, ast.parse(source(name))

    def test_no_barred_nodes(self):
        for name, tree in self.each():
            for node in ast.walk(tree):
                self.assertNotIsInstance(node, NODES, f"{name}:{getattr(node, 'lineno', 0)}")

    def test_imports(self):
        graph = {}
        for name, tree in self.each():
            graph[name[:-3]] = set()
            for place, node in enumerate(tree.body):
                self.assertNotIsInstance(node, ast.Import, name)
                if not isinstance(node, ast.ImportFrom):
                    continue
                self.assertEqual(node.level, 0)
                for alias in node.names:
                    self.assertIsNone(alias.asname)
                if node.module in LIBRARY:
                    self.assertLessEqual({alias.name for alias in node.names}, LIBRARY[node.module])
                    continue
                self.assertTrue(node.module.startswith("guardrungs."), f"{name}: {node.module}")
                other = node.module[len("guardrungs."):]
                graph[name[:-3]].add(other)
                defined = set()
                for part in ast.parse(source(other + ".py")).body:
                    if isinstance(part, (ast.FunctionDef, ast.ClassDef)):
                        defined.add(part.name)
                    elif isinstance(part, ast.Assign):
                        defined.add(part.targets[0].id)
                for alias in node.names:
                    self.assertIn(alias.name, defined, f"{name}: {alias.name}")
        done = set()

        def visit(part, path):
            self.assertNotIn(part, path)
            if part not in done:
                for other in graph[part]:
                    visit(other, path | {part})
                done.add(part)
        for part in graph:
            visit(part, frozenset())

    def test_imports_are_used(self):
        for name, tree in self.each():
            told = {alias.name for node in tree.body if isinstance(node, ast.ImportFrom) for alias in node.names}
            used = {node.id for node in ast.walk(tree) if isinstance(node, ast.Name)}
            self.assertLessEqual(told, used, name)

    def test_module_level(self):
        for name, tree in self.each():
            bound = []
            for node in tree.body:
                if isinstance(node, ast.Expr):
                    self.assertIsInstance(node.value, ast.Constant)
                    continue
                self.assertIsInstance(node, (ast.ImportFrom, ast.FunctionDef, ast.ClassDef, ast.Assign), name)
                if isinstance(node, ast.ImportFrom):
                    bound.extend(alias.name for alias in node.names)
                elif isinstance(node, ast.Assign):
                    self.assertEqual(len(node.targets), 1)
                    self.assertIsInstance(node.targets[0], ast.Name)
                    bound.append(node.targets[0].id)
                else:
                    bound.append(node.name)
            self.assertEqual(len(bound), len(set(bound)), name)

    def test_names(self):
        for name, tree in self.each():
            shut = {alias.name for node in tree.body if isinstance(node, ast.ImportFrom) for alias in node.names}
            shut |= {node.name for node in tree.body if isinstance(node, ast.ClassDef)}
            shut |= set(dir(builtins)) - {"_"} | BARRED
            for node in ast.walk(tree):
                told = []
                if isinstance(node, ast.arg):
                    told = [node.arg]
                elif isinstance(node, ast.Name) and isinstance(node.ctx, ast.Store):
                    told = [node.id]
                for word in told:
                    self.assertNotIn(word, shut, f"{name}:{node.lineno}")
                    self.assertFalse(word.startswith("__"), f"{name}:{node.lineno}")
                if isinstance(node, ast.Name) and isinstance(node.ctx, ast.Load):
                    self.assertNotEqual(node.id, "_", f"{name}:{node.lineno}")
                    if node.id in dir(builtins):
                        self.assertIn(node.id, BUILTINS, f"{name}:{node.lineno}")
                if isinstance(node, (ast.FunctionDef, ast.ClassDef)):
                    self.assertNotIn(node.name, BARRED)
                    self.assertTrue(not node.name.startswith("__") or node.name in DUNDERS, node.name)
                    if isinstance(node, ast.ClassDef):
                        self.assertRegex(node.name, "^[A-Z]")

    def test_names_that_stand_nowhere(self):
        nowhere = {"mro", "elements", "open", "input", "law", "version_info", "with_traceback", "add_note", "register",
                   "format", "format_map"}
        for name, tree in self.each():
            for node in ast.walk(tree):
                if isinstance(node, ast.Attribute):
                    self.assertNotIn(node.attr, nowhere, f"{name}:{node.lineno}")
                if isinstance(node, ast.keyword):
                    self.assertNotIn(node.arg, nowhere, f"{name}:{node.lineno}")

    def test_words(self):
        for name, tree in self.each():
            text = source(name)
            self.assertIsNone(WORDS.search(text), name)
            for node in ast.walk(tree):
                if isinstance(node, ast.Constant) and isinstance(node.value, str):
                    self.assertNotIn("%", node.value, f"{name}:{node.lineno}")
                self.assertFalse(isinstance(node, ast.Constant) and isinstance(node.value, (float, complex)), name)

    def test_methods_and_attributes(self):
        own, attributes, classes = set(), set(), {}
        for name, tree in self.each():
            for node in ast.walk(tree):
                if isinstance(node, ast.ClassDef):
                    methods = {part.name for part in node.body if isinstance(part, ast.FunctionDef)}
                    stored = {part.attr for part in ast.walk(node) if isinstance(part, ast.Attribute)
                              and isinstance(part.ctx, ast.Store) and isinstance(part.value, ast.Name)
                              and part.value.id == "self"}
                    self.assertEqual(methods & stored, set(), node.name)
                    bases = [base.id for base in node.bases]
                    classes[node.name] = (bases, methods, stored)
                    own |= methods
                    attributes |= stored
        for told, (bases, methods, stored) in classes.items():
            for base in bases:
                if base in classes:
                    self.assertEqual(stored & classes[base][1], set(), told)
                    self.assertEqual(methods & classes[base][2], set(), told)
        taken = set(dir(str)) | set(dir(int)) | set(dir(list)) | set(dir(dict)) | set(dir(set)) | set(dir(bytes))
        self.assertEqual({word for word in own & taken if not word.startswith("__")}, set())
        self.assertEqual(attributes & taken, set())
        for name, tree in self.each():
            for node in ast.walk(tree):
                if isinstance(node, ast.Attribute) and isinstance(node.ctx, ast.Load):
                    self.assertIn(node.attr, METHODS | own | attributes | {"__init__"}, f"{name}:{node.lineno}")

    def test_sets_on_the_spot(self):
        for name, tree in self.each():
            parents = {}
            for node in ast.walk(tree):
                for child in ast.iter_child_nodes(node):
                    parents[child] = node
            for node in ast.walk(tree):
                where = f"{name}:{getattr(node, 'lineno', 0)}"
                is_set = isinstance(node, ast.Call) and isinstance(node.func, ast.Name) and node.func.id == "set"
                if is_set or isinstance(node, ast.SetComp):
                    above = parents[node]
                    fine = isinstance(above, ast.Call) and isinstance(above.func, ast.Name)
                    self.assertTrue(fine and above.func.id in ("sorted", "len"), where)
                if isinstance(node, ast.Starred) and isinstance(parents[node], ast.Call):
                    self.assertIsInstance(node.value, (ast.Name, ast.Attribute), where)
                if isinstance(node, ast.BinOp) and isinstance(node.op, ast.Pow):
                    self.assertIsInstance(node.right, ast.Constant, where)
                if isinstance(node, ast.Compare) and isinstance(node.ops[0], (ast.Is, ast.IsNot)):
                    self.assertIn(node.comparators[0].value, (None, True, False), where)

    def test_targets(self):
        for name, tree in self.each():
            for node in ast.walk(tree):
                if isinstance(node, ast.Attribute) and isinstance(node.ctx, ast.Store):
                    self.assertIsInstance(node.value, ast.Name, f"{name}:{node.lineno}")
                if isinstance(node, ast.Call) and isinstance(node.func, ast.Name):
                    self.assertNotIn(node.func.id, ("type", "print", "map", "filter", "input", "open"))
                if isinstance(node, ast.Raise):
                    self.assertIsInstance(node.exc, ast.Call, f"{name}:{node.lineno}")

    def test_reversed_goes_over_new_lists(self):
        for name, tree in self.each():
            for node in ast.walk(tree):
                if isinstance(node, ast.Call) and isinstance(node.func, ast.Name) and node.func.id == "reversed":
                    over = node.args[0]
                    fine = isinstance(over, ast.Call) and isinstance(over.func, ast.Name)
                    self.assertTrue(fine and over.func.id in ("list", "tuple", "sorted", "range"), f"{name}:{node.lineno}")

    def test_no_name_is_a_method_here_and_an_attribute_there(self):
        methods, stored = set(), set()
        for name, tree in self.each():
            for node in ast.walk(tree):
                if isinstance(node, ast.ClassDef):
                    methods |= {part.name for part in node.body if isinstance(part, ast.FunctionDef)}
                if isinstance(node, ast.Attribute) and isinstance(node.ctx, ast.Store):
                    stored.add(node.attr)
        self.assertEqual(methods & stored, set())

    def test_generators_are_only_those_of_the_interface(self):
        for name, tree in self.each():
            for node in ast.walk(tree):
                if isinstance(node, ast.FunctionDef):
                    if any(isinstance(part, (ast.Yield, ast.YieldFrom)) for part in ast.walk(node)):
                        self.assertEqual(node.name, "rows_of_changes")
                if isinstance(node, ast.Name) and isinstance(node.ctx, ast.Load):
                    self.assertNotIn(node.id, ("rows_of_changes", "StopIteration"), f"{name}:{node.lineno}")

    def test_decorators(self):
        for name, tree in self.each():
            for node in ast.walk(tree):
                if isinstance(node, ast.ClassDef):
                    self.assertEqual(node.decorator_list, [])
                if isinstance(node, ast.FunctionDef):
                    for decorator in node.decorator_list:
                        self.assertIn(decorator.id, ("property", "classmethod", "staticmethod"))

    def test_loops_do_not_change_what_their_heads_mention(self):
        changing = {"append", "extend", "insert", "pop", "remove", "update", "clear", "setdefault"}
        for name, tree in self.each():
            for node in ast.walk(tree):
                if not isinstance(node, ast.For) or ast.unparse(node.iter).startswith("range("):
                    continue
                heads = {ast.unparse(part) for part in ast.walk(node.iter) if isinstance(part, (ast.Name, ast.Attribute))}
                for part in [one for row in node.body for one in ast.walk(row)]:
                    changed = None
                    if isinstance(part, ast.Call) and isinstance(part.func, ast.Attribute):
                        if part.func.attr in changing:
                            changed = part.func.value
                    elif isinstance(part, ast.Subscript) and isinstance(part.ctx, ast.Store):
                        changed = part.value
                    if changed is not None:
                        self.assertNotIn(ast.unparse(changed), heads, f"{name}:{part.lineno}")

    def test_loops_that_change_something_walk_new_lists(self):
        """What a loop changes is a list of its function that nothing else is, or what the loop walks is a new list."""
        for name, tree in self.each():
            for function in ast.walk(tree):
                if isinstance(function, ast.FunctionDef):
                    self.assertEqual(list(old_walks(function)), [], name)

    def test_the_rule_of_loops_sees_what_it_should(self):
        told = {
            "for x in xs:\n  ys.append(x)\n ys = xs": 1, "ys = []\n for x in xs:\n  ys.append(x)\n xs = ys": 1,
            "ys = []\n for x in xs:\n  ys.append(x)": 0, "for x in list(xs):\n  self.ys.append(x)": 0,
            "for x in xs:\n  self.ys.append(x)": 1, "for x in self.xs:\n  self.ys[x] = 1": 1,
            "ys = {}\n for x, k in zip(self.xs, xs):\n  ys[k] = x": 0, "for x in list(xs) + new:\n  self.ys[x] = 1": 1,
            "for x in range(3):\n  self.ys[x] = 1": 0, "for k, x in list(enumerate(xs)):\n  self.ys[k].append(x)": 0,
            "ys = {}\n zs = ys if xs else {}\n for x in xs:\n  zs[x] = 1": 1,
            "ys = {}\n for x in self.xs[0]:\n  ys.setdefault(x, []).append(x)": 1,
            "ys = {}\n for x in list(self.xs[0]):\n  ys.setdefault(x, []).append(x)": 0,
            "ys = [[]]\n for x in xs:\n  ys[0].append(x)": 1, "ys = [[]]\n for x in xs:\n  ys[0][x] = 1": 1,
            "return [self.ys.pop() for x in xs]": 1, "return [x for x in self.xs if self.ys.pop()]": 1,
            "return {x: k for x in self.xs for k in self.ys.pop()}": 1, "return [x for x in self.xs.pop()]": 0,
            "ys = {}\n return {ys.setdefault(x, x): 1 for x in xs}": 0, "return [self.ys.pop() for x in list(xs)]": 0}
        for body, many in told.items():
            function = ast.parse(f"def f(self, xs, new):\n {body}\n").body[0]
            self.assertEqual(len(list(old_walks(function))), many, body)

    def test_ranges_zips_and_views_are_walked_on_the_spot(self):
        for name, tree in self.each():
            self.assertEqual(list(left_unwalked(tree)), [], name)

    def test_the_rule_of_what_is_walked_on_the_spot_sees_what_it_should(self):
        fine = [
            "for x in range(3):\n  f(x)", "return [x for x in zip(xs, ys)]", "return sum(range(3))",
            "return list(enumerate(zip(xs, ys)))", "return sorted(xs.items(), key=k)", "return min(xs.values())",
            "return max(xs.values(), default=0)", "return \" \".join(xs.keys())", "return len(range(3))",
            "return xs in range(3)", "return xs not in ys.keys()", "return list(reversed(range(3)))",
            "return f(list(range(3)))", "r = range(3)\n return r[0], len(r), [x for x in r], xs in r",
            "r = range(3)\n for x in enumerate(r):\n  f(x)"]
        wrong = [
            "return f(range(3))", "return xs.longest(range(3))", "f(3, range(3))", "return f(k=zip(xs, ys))",
            "return range(3)", "self.xs = range(3)", "xs[0] = range(3)", "r, s = range(3), 1", "r = zip(xs, ys)",
            "r = xs.items()", "return [range(3)]", "return (1, enumerate(xs))", "return range(3) if xs else xs",
            "for x in range(3) if xs else ys:\n  f(x)", "return max(xs.values(), 0)", "return max(xs.items(), key=f)",
            "return zip(xs, range(3))", "return list(zip(xs, range(3)))", "return len(zip(xs, ys))",
            "return range(3) == xs", "return xs in zip(ys, ys)", "return xs in ys.values()", "a, *b = range(3)",
            "return f(*range(3))", "return list(reversed(xs.items()))", "return xs.join(range(3))",
            "return set(xs.keys())",
            "r = range(3)\n return f(r)", "r = range(3)\n return r", "r = range(3)\n r = range(4)\n return len(r)",
            "r = range(3)\n s = r\n return len(s)", "r = range(3)\n if r:\n  f(3)", "r = range(3)\n return f(k=r)",
            "r = range(3)\n def g():\n  return len(r)\n return g"]
        for bodies, many in ((fine, 0), (wrong, 1)):
            for body in bodies:
                told = sorted(set(left_unwalked(ast.parse(f"def f(self, xs, ys):\n {body}\n"))))
                self.assertEqual(min(len(told), 1), many, body)


if __name__ == "__main__":
    unittest.main()
