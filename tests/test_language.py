"""The rules of LANGUAGE.md that a test can see in the files of the package."""

import ast
import builtins
import os
import unittest

HERE = os.path.dirname(os.path.dirname(os.path.abspath(__file__)))
PACKAGE = os.path.join(HERE, "deeplooks")

BUILTINS = """len range enumerate zip min max sum abs sorted reversed int str bool bytes list tuple dict set frozenset
isinstance ord repr any all divmod map iter next Exception ValueError TypeError KeyError IndexError LookupError
ZeroDivisionError ArithmeticError OverflowError RuntimeError NotImplementedError AttributeError NotImplemented
property classmethod staticmethod super""".split()
LIBRARY = {"math": "gcd lcm isqrt comb perm factorial".split(),
           "heapq": "heappush heappop heapify heapreplace heappushpop".split(),
           "itertools": "product combinations permutations chain accumulate pairwise islice zip_longest".split(),
           "collections": ["defaultdict", "deque"]}
METHODS = """append clear copy count endswith extend find get index insert isalnum isalpha isdigit islower isspace isupper
items join keys ljust lower lstrip partition pop remove replace reverse rfind rjust rpartition rsplit rstrip setdefault
split splitlines startswith strip update upper values zfill bit_length add discard""".split()
DOUBLE = """__init__ __eq__ __repr__ __str__ __len__ __enter__ __exit__ __call__ __iter__ __lt__ __le__ __gt__ __ge__
__add__ __or__ __and__ __sub__ __contains__ __getitem__""".split()
WORDS = """mro elements open input law version_info with_traceback add_note register compile dir eval exec exit gc globals
help id importlib license locals os quit setattr getattr hasattr type vars delattr sys typing enum""".split()
# An example that is run leaves a "_" among the builtins; it is none of them.
PYTHON = [word for word in dir(builtins) if word != "_"]
TAKE_LISTS = ["any", "all", "min", "max", "sum", "sorted"]


def sources():
    """The name and the text of each file of the package."""
    for name in sorted(os.listdir(PACKAGE)):
        if name != "__pycache__":
            with open(os.path.join(PACKAGE, name), encoding="utf-8") as file:
                yield name, file.read()


def trees():
    """The name and the tree of each file of the package."""
    for name, text in sources():
        yield name, ast.parse(text)


def is_plain(node):
    """True if the node is a literal as module level allows it."""
    if isinstance(node, ast.UnaryOp):
        node = node.operand
    if isinstance(node, ast.Tuple):
        return all(is_plain(part) for part in node.elts)
    return isinstance(node, ast.Constant)


def functions(tree):
    """All functions and methods of the tree."""
    return [node for node in ast.walk(tree) if isinstance(node, ast.FunctionDef)]


def bound_names(function):
    """The parameters and the local names of a function."""
    told = function.args
    found = [arg.arg for arg in told.posonlyargs + told.args + told.kwonlyargs + [told.vararg, told.kwarg] if arg]
    for node in ast.walk(function):
        if isinstance(node, ast.Name) and isinstance(node.ctx, ast.Store):
            found.append(node.id)
        if isinstance(node, ast.ExceptHandler) and node.name:
            found.append(node.name)
    return found


def generator_names():
    """The names of the generators of the package."""
    return {function.name for _, tree in trees() for function in functions(tree)
            if any(isinstance(node, (ast.Yield, ast.YieldFrom)) for node in ast.walk(function))}


def has_star(node):
    """True if a star or a double star stands anywhere in the node."""
    return any(isinstance(part, ast.Starred) or isinstance(part, ast.Dict) and None in part.keys
               for part in ast.walk(node))


def is_generator(node, names):
    """True if the node is a generator expression or a call of a generator with one of these names."""
    if isinstance(node, ast.Call):
        return getattr(node.func, "id", getattr(node.func, "attr", "")) in names
    return isinstance(node, ast.GeneratorExp)


def misplaced_stars(tree, names):
    """The lines with a star where L7 bars it: in an index, in a set literal, over a generator (names has theirs)."""
    found = []
    for node in ast.walk(tree):
        # L7 does not say how deep "in an index" goes, so no star is let through inside one, not even in a call.
        in_index = isinstance(node, ast.Subscript) and has_star(node.slice)
        in_set = isinstance(node, ast.Set) and has_star(node)
        if in_index or in_set or isinstance(node, ast.Starred) and is_generator(node.value, names):
            found.append(node.lineno)
    return found


class Language(unittest.TestCase):

    def test_files(self):
        for name, text in sources():
            self.assertRegex(name, r"^[a-z_0-9]+\.py$")
            self.assertLessEqual(text.count("\n"), 399, name)
            self.assertTrue(text.endswith("\n") and not text.endswith("\n\n"), name)
            for line in text.split("\n"):
                self.assertLessEqual(len(line), 120, name)
                self.assertTrue(all(" " <= sign <= "~" for sign in line), (name, line))

    def test_module_level(self):
        for name, tree in trees():
            for node in tree.body:
                kinds = (ast.FunctionDef, ast.ClassDef, ast.ImportFrom)
                doc = isinstance(node, ast.Expr) and node is tree.body[0] and isinstance(node.value, ast.Constant)
                value = isinstance(node, ast.Assign) and len(node.targets) == 1 and is_plain(node.value)
                self.assertTrue(isinstance(node, kinds) or doc or value, (name, node.lineno))
            imports = [isinstance(node, ast.ImportFrom) for node in tree.body[1:]]
            self.assertEqual(imports, sorted(imports, reverse=True), name)
            self.assertFalse([node for node in ast.walk(tree) if isinstance(node, ast.Import)], name)

    def test_imports(self):
        own = {name[:-3]: [node.name for node in tree.body if hasattr(node, "name")] +
               [node.targets[0].id for node in tree.body if isinstance(node, ast.Assign)] for name, tree in trees()}
        ahead = {}
        for name, tree in trees():
            ahead[name[:-3]] = []
            for node in ast.walk(tree):
                if isinstance(node, ast.ImportFrom):
                    names = [alias.name for alias in node.names]
                    self.assertEqual(node.level, 0)
                    if node.module in LIBRARY:
                        self.assertTrue(set(names) <= set(LIBRARY[node.module]), name)
                        continue
                    self.assertTrue(node.module.startswith("deeplooks."), (name, node.module))
                    module = node.module[len("deeplooks."):]
                    self.assertTrue(set(names) <= set(own[module]), (name, module, names))
                    ahead[name[:-3]].append(module)
        while ahead:
            free = [module for module in ahead if not set(ahead[module]) & set(ahead)]
            self.assertTrue(free, ahead)
            ahead = {module: ahead[module] for module in ahead if module not in free}

    def test_each_import_is_used(self):
        for name, tree in trees():
            used = [node.id for node in ast.walk(tree) if isinstance(node, ast.Name)]
            for node in ast.walk(tree):
                if isinstance(node, ast.ImportFrom):
                    for alias in node.names:
                        self.assertIn(alias.name, used, name)

    def test_functions(self):
        for name, tree in trees():
            for function in functions(tree):
                self.assertLessEqual(function.end_lineno - function.lineno + 1, 40, (name, function.name))
                if function.name.startswith("__"):
                    self.assertIn(function.name, DOUBLE)
                else:
                    self.assertTrue(ast.get_docstring(function), (name, function.name))
                for node in function.decorator_list:
                    self.assertIn(getattr(node, "id", ""), ("property", "classmethod", "staticmethod"))

    def test_names(self):
        for name, tree in trees():
            held = [node.name for node in tree.body if isinstance(node, ast.ClassDef)]
            for node in tree.body:
                if isinstance(node, ast.ImportFrom):
                    held.extend(alias.name for alias in node.names)
            for function in functions(tree):
                for bound in bound_names(function):
                    self.assertNotIn(bound, held, (name, function.name))
                    self.assertNotIn(bound, PYTHON, (name, function.name))
                    # L17 leaves this one word to parameters and local variables.
                    self.assertTrue(bound == "register" or bound not in WORDS, (name, bound))
                if not function.name.startswith("__"):
                    self.assertNotIn(function.name, WORDS)
                    self.assertNotIn(function.name, PYTHON, name)
            for node in ast.walk(tree):
                if isinstance(node, ast.Attribute):
                    self.assertNotIn(node.attr, WORDS)

    def test_own_methods_and_attributes(self):
        barred = set(dir(str)) | set(dir(int)) | set(dir(list)) | set(dir(dict)) | set(dir(set)) | set(dir(bytes))
        for name, tree in trees():
            for node in ast.walk(tree):
                if isinstance(node, ast.ClassDef):
                    for member in node.body:
                        if isinstance(member, ast.FunctionDef) and not member.name.startswith("__"):
                            self.assertNotIn(member.name, barred, name)
                if isinstance(node, ast.Attribute) and isinstance(node.ctx, ast.Store):
                    self.assertNotIn(node.attr, barred, name)

    def test_no_name_is_a_method_and_an_attribute(self):
        methods, attributes = set(), set()
        for _, tree in trees():
            for node in ast.walk(tree):
                if isinstance(node, ast.ClassDef):
                    methods |= {member.name for member in node.body if isinstance(member, ast.FunctionDef)}
                if isinstance(node, ast.Attribute) and isinstance(node.ctx, ast.Store):
                    attributes.add(node.attr)
        self.assertEqual(methods & attributes, set())

    def test_generators_are_iterated_at_once(self):
        names = generator_names()
        self.assertEqual(names, {"rows_of"})
        for name, tree in trees():
            heads = [node.iter for node in ast.walk(tree) if isinstance(node, (ast.For, ast.comprehension))]
            for node in ast.walk(tree):
                if isinstance(node, ast.Call) and getattr(node.func, "id", "") in names:
                    self.assertIn(node, heads, name)
                    self.assertTrue(all(isinstance(value, ast.Name) for value in node.args), name)

    def test_ranges_and_views_are_not_stored(self):
        for name, tree in trees():
            for node in ast.walk(tree):
                if isinstance(node, ast.Call):
                    lazy = getattr(node.func, "id", "") in ("zip", "enumerate", "reversed", "range", "map")
                    view = getattr(node.func, "attr", "") in ("items", "keys", "values")
                    if lazy or view:
                        self.assertTrue(self.is_iterated(tree, node), (name, node.lineno))

    def is_iterated(self, tree, call):
        """True if the call is iterated at once, or kept in a plain local variable."""
        takers = ("list", "tuple", "dict", "sorted", "sum", "any", "all", "enumerate", "zip", "min", "max", "reversed")
        for node in ast.walk(tree):
            if isinstance(node, (ast.For, ast.comprehension)) and node.iter is call:
                return True
            if isinstance(node, ast.Call) and getattr(node.func, "id", "") in takers and call in node.args:
                return True
            if isinstance(node, ast.Assign) and node.value is call and isinstance(node.targets[0], ast.Name):
                return getattr(call.func, "id", "") == "range"
        return False

    def test_classes_are_not_passed_on(self):
        held = {node.name for _, tree in trees() for node in tree.body if isinstance(node, ast.ClassDef)}
        for name, tree in trees():
            right = []
            for node in ast.walk(tree):
                if isinstance(node, ast.Call):
                    right.append(node.func)
                    if getattr(node.func, "id", "") == "isinstance":
                        right.extend(node.args[1:])
                        self.assertIsInstance(node.args[1], (ast.Name, ast.Tuple), (name, node.lineno))
                if isinstance(node, ast.ClassDef):
                    right.extend(node.bases)
                if isinstance(node, ast.ExceptHandler):
                    right.append(node.type)
                if isinstance(node, ast.Attribute):
                    right.append(node.value)
            for node in ast.walk(tree):
                if isinstance(node, ast.Name) and node.id in held:
                    self.assertIn(node, right, (name, node.lineno))

    def test_sets_are_not_iterated_and_stored_once(self):
        for name, tree in trees():
            for node in ast.walk(tree):
                if isinstance(node, (ast.For, ast.comprehension)):
                    self.assertNotEqual(getattr(getattr(node.iter, "func", None), "id", ""), "set", name)
            for function in functions(tree):
                stored = [node.targets[0].id for node in ast.walk(function) if isinstance(node, ast.Assign)
                          and getattr(getattr(node.value, "func", None), "id", "") == "set"]
                self.assertEqual(len(stored), len(set(stored)), (name, function.name))

    def test_methods_that_are_called(self):
        own = set(METHODS)
        for _, tree in trees():
            for node in ast.walk(tree):
                if isinstance(node, ast.ClassDef):
                    own |= {member.name for member in node.body if isinstance(member, ast.FunctionDef)}
        for name, tree in trees():
            for node in ast.walk(tree):
                if isinstance(node, ast.Call) and isinstance(node.func, ast.Attribute):
                    self.assertIn(node.func.attr, own, name)

    def test_builtins(self):
        for name, tree in trees():
            for node in ast.walk(tree):
                if isinstance(node, ast.Name) and node.id in PYTHON:
                    self.assertIn(node.id, BUILTINS, (name, node.lineno))
                if isinstance(node, ast.Call) and getattr(node.func, "id", "") in BUILTINS:
                    for word in node.keywords:
                        self.assertIn(word.arg, ("key", "reverse", "default", "start", "strict"), name)
                if isinstance(node, ast.Call) and getattr(node.func, "id", "") in TAKE_LISTS:
                    for value in node.args:
                        self.assertNotIsInstance(value, ast.GeneratorExp, (name, node.lineno))

    def test_statements_and_values(self):
        barred = (ast.Global, ast.AsyncFunctionDef, ast.AsyncFor, ast.AsyncWith, ast.Await, ast.Div, ast.MatMult,
                  ast.NamedExpr, ast.AnnAssign, ast.Lambda)
        for name, tree in trees():
            for node in ast.walk(tree):
                self.assertNotIsInstance(node, barred, (name, getattr(node, "lineno", 0)))
                if isinstance(node, ast.Constant):
                    self.assertNotIsInstance(node.value, (float, complex))
                    if isinstance(node.value, str):
                        self.assertNotIn("%", node.value, name)
                if isinstance(node, ast.Compare) and isinstance(node.ops[0], (ast.Is, ast.IsNot)):
                    self.assertIsInstance(node.comparators[0], ast.Constant, (name, node.lineno))
                if isinstance(node, ast.ExceptHandler):
                    self.assertIsNotNone(node.type, name)
                if isinstance(node, ast.For):
                    self.assertNotIsInstance(node.iter, (ast.Set, ast.SetComp), name)

    def test_stars(self):
        names = generator_names()
        for name, tree in trees():
            self.assertEqual(misplaced_stars(tree, names), [], name)

    def test_misplaced_stars_are_seen(self):
        for text in ("a[(*b, c)] = 1", "a[*b, c] = 1", "a[*b] += 1", "x = a[(*b, c)]", "del a[(*b,)]", "x = a[(*b,), 1]",
                     "x = a[[*b][0]]", "x = a[f((*b, c))]", "x = a[f(*b)]", "x = a[[*b][0]:]", "x = a.b[1][(c, (*b,))]",
                     "x = a[{**b}]", "x = [a[(*b, k)] for k in c]", "x = {*a}", "x = {1, (*a, b)}",
                     "x = [*(k for k in a)]", "x = (*steps(a), 1)", "x = [*a.steps(b)]"):
            self.assertEqual(misplaced_stars(ast.parse("y = 0\n" + text), ["steps"]), [2], text)
        for text in ("x = [*a, 1]", "x = (*a, *b)", "x = (*a, b)\ny[x] = 1", "x = [a, *b][-1]", "x = (*a[1:], *b[0])",
                     "x = f(*a, b)", "a, *b = c", "a[1], *b = c", "x = {**a, 1: b}", "x = [*f(a)]",
                     "x = [(*a, k) for k in b[1]]", "x = {(*a, k) for k in b}"):
            self.assertEqual(misplaced_stars(ast.parse(text), ["steps"]), [], text)

    def test_blocks_end_by_assignments_alone(self):
        # L6: the rows of __exit__ assign attributes of self and of one name that is taken from self.
        for name, tree in trees():
            for method in functions(tree):
                if method.name == "__exit__":
                    for node in method.body:
                        self.assertIsInstance(node, ast.Assign, (name, node.lineno))
                        self.assertIsInstance(node.value, (ast.Attribute, ast.Constant), (name, node.lineno))

    def test_equality_asks_for_the_class_first(self):
        for name, tree in trees():
            for held in [node for node in ast.walk(tree) if isinstance(node, ast.ClassDef)]:
                for method in held.body:
                    if isinstance(method, ast.FunctionDef) and method.name == "__eq__":
                        first = ast.unparse(method.body[0])
                        right = (f"if not isinstance(other, {held.name}):\n    return False",
                                 f"return isinstance(other, {held.name})")
                        self.assertTrue(first.startswith(right), (name, first))


if __name__ == "__main__":
    unittest.main()
