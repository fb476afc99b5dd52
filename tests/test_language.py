"""The rules of the subset of Python in which the package is written, as far as a test can see them."""

import ast
import builtins
import pathlib
import re
import unittest

ROOT = pathlib.Path(__file__).resolve().parent.parent / 'roomprofile'
LIBRARY = {
    'heapq': {'heappush', 'heappop', 'heapify', 'heapreplace', 'heappushpop'},
    'math': {'gcd', 'lcm', 'isqrt', 'comb', 'perm', 'factorial'},
    'itertools': {'product', 'combinations', 'permutations'},
}
BUILTINS = set('''
    len range enumerate zip min max sum abs sorted reversed int str bool bytes list tuple dict set frozenset isinstance
    ord repr any all divmod Exception ValueError TypeError KeyError IndexError LookupError ZeroDivisionError
    ArithmeticError OverflowError RuntimeError NotImplementedError AttributeError StopIteration NotImplemented map iter
    next super property staticmethod classmethod
'''.split())
BARRED_NAMES = set('register mro elements open input law version_info with_traceback add_note'.split())
BARRED_WORDS = set('''
    type typing typing_extensions enum Enum IntEnum StrEnum Flag IntFlag Generic Protocol ABC ABCMeta namedtuple
    NamedTuple TypedDict TYPE_CHECKING abstractmethod dataclass overload contextmanager _wall _WallAttr
'''.split())
BARRED_NODES = (
    ast.GeneratorExp, ast.Set, ast.Global, ast.AsyncFunctionDef, ast.AsyncFor, ast.AsyncWith, ast.Await, ast.Div,
    ast.MatMult, ast.Import,
)


def files():
    return sorted(ROOT.rglob('*.py'))


def trees():
    for path in files():
        yield path, ast.parse(path.read_text())


def module_name(path):
    parts = path.relative_to(ROOT.parent).with_suffix('').parts
    return '.'.join(parts[:-1] if parts[-1] == '__init__' else parts)


def imports_of(tree):
    return [node for node in ast.walk(tree) if isinstance(node, (ast.Import, ast.ImportFrom))]


def bound_names(tree):
    for node in ast.walk(tree):
        if isinstance(node, ast.Name) and isinstance(node.ctx, ast.Store):
            yield node.id
        elif isinstance(node, (ast.FunctionDef, ast.ClassDef)):
            yield node.name
        elif isinstance(node, ast.arg):
            yield node.arg


class FilesTest(unittest.TestCase):
    def test_files_and_folders(self):
        self.assertLessEqual(len(files()), 100)
        for path in ROOT.rglob('*'):
            if '__pycache__' in path.parts:
                continue
            if path.is_dir():
                self.assertTrue((path / '__init__.py').exists(), path)
                self.assertFalse(path.with_suffix('.py').exists(), path)
            else:
                self.assertEqual(path.suffix, '.py')
            self.assertRegex(path.stem, r'^([a-z][a-z0-9_]*|__init__|__main__)$')
            self.assertFalse(path.stem.startswith(('test', 'law_')), path)

    def test_lines(self):
        for path in files():
            lines = path.read_text().split('\n')
            self.assertLessEqual(len(lines), 400, path)
            for number, line in enumerate(lines, 1):
                self.assertLessEqual(len(line), 120, (path, number))
                self.assertRegex(line, r'^[ -~]*$', (path, number))

    def test_functions_are_short(self):
        for path, tree in trees():
            for node in ast.walk(tree):
                if isinstance(node, ast.FunctionDef):
                    self.assertLessEqual(node.end_lineno - node.lineno + 1, 40, (path, node.name))

    def test_modules_contain_only_definitions(self):
        allowed = (ast.ImportFrom, ast.FunctionDef, ast.ClassDef, ast.Assign, ast.Expr)
        for path, tree in trees():
            names = []
            for at, node in enumerate(tree.body):
                self.assertIsInstance(node, allowed, path)
                if isinstance(node, ast.Expr):
                    self.assertTrue(at == 0 and isinstance(node.value, ast.Constant), (path, node.lineno))
                if isinstance(node, ast.ImportFrom):
                    names.extend(alias.name for alias in node.names)
                if isinstance(node, (ast.FunctionDef, ast.ClassDef)):
                    names.append(node.name)
                if isinstance(node, ast.Assign):
                    names.append(node.targets[0].id)
            self.assertEqual(len(names), len(set(names)), path)


class ImportsTest(unittest.TestCase):
    def test_each_name_comes_from_the_file_that_defines_it(self):
        defined = {}
        for path, tree in trees():
            own = [node.name for node in tree.body if isinstance(node, (ast.FunctionDef, ast.ClassDef))]
            own += [node.targets[0].id for node in tree.body if isinstance(node, ast.Assign)]
            defined[module_name(path)] = set(own)
        for path, tree in trees():
            for node in imports_of(tree):
                known = LIBRARY.get(node.module) or defined[node.module]
                self.assertEqual(node.level, 0)
                self.assertIn(node, tree.body)
                for alias in node.names:
                    self.assertIn(alias.name, known, path)
                    self.assertIsNone(alias.asname)

    def test_imported_names_are_used(self):
        for path, tree in trees():
            used = {node.id for node in ast.walk(tree) if isinstance(node, ast.Name)}
            for node in imports_of(tree):
                for alias in node.names:
                    self.assertIn(alias.name, used, path)

    def test_no_circles(self):
        needs = {module_name(path): {node.module for node in imports_of(tree)} - set(LIBRARY) for path, tree in trees()}
        while needs:
            free = [name for name, others in needs.items() if not others & set(needs)]
            self.assertTrue(free, needs)
            for name in free:
                del needs[name]


class NamesTest(unittest.TestCase):
    def test_words(self):
        for path in files():
            code = re.sub(r'"""(.|\n)*?"""|#.*', '', path.read_text())
            self.assertFalse(BARRED_WORDS & set(re.findall(r'\w+', code)), path)

    def test_builtins(self):
        every = set(dir(builtins))
        for path, tree in trees():
            for node in ast.walk(tree):
                if isinstance(node, ast.Name) and node.id in every:
                    self.assertIn(node.id, BUILTINS, (path, node.lineno))
            names = list(bound_names(tree))
            methods = [part.name for node in ast.walk(tree) if isinstance(node, ast.ClassDef) for part in node.body
                       if isinstance(part, ast.FunctionDef)]
            for name in names:
                if name not in methods:
                    self.assertNotIn(name, every, path)
                self.assertNotIn(name, BARRED_NAMES, path)
                self.assertRegex(name, r'^(_?[A-Za-z][A-Za-z0-9_]*|_|__[a-z]+__)$', path)

    def test_local_names_hide_no_import(self):
        for path, tree in trees():
            top = {alias.name for node in imports_of(tree) for alias in node.names}
            top |= {node.name for node in ast.walk(tree) if isinstance(node, ast.ClassDef)}
            for node in ast.walk(tree):
                if isinstance(node, ast.FunctionDef):
                    inner = [name for part in node.body + [node.args] for name in bound_names(part)]
                    self.assertFalse(top & set(inner), (path, node.name))


class StatementsTest(unittest.TestCase):
    def test_nodes(self):
        for path, tree in trees():
            for node in ast.walk(tree):
                self.assertNotIsInstance(node, BARRED_NODES, path)
                if isinstance(node, (ast.FunctionDef, ast.ClassDef)):
                    known = [part.id for part in node.decorator_list if isinstance(part, ast.Name)]
                    self.assertEqual(len(known), len(node.decorator_list))
                    self.assertLessEqual(set(known), {'property', 'staticmethod', 'classmethod'})
                if isinstance(node, ast.Constant):
                    self.assertNotIsInstance(node.value, (float, complex))
                    if isinstance(node.value, str):
                        self.assertNotIn('%', node.value, path)

    def test_powers_have_plain_exponents(self):
        for path, tree in trees():
            for node in ast.walk(tree):
                if isinstance(node, ast.BinOp) and isinstance(node.op, ast.Pow):
                    self.assertIsInstance(node.right, ast.Constant, path)
                    self.assertLessEqual(node.right.value, 64, path)

    def test_is_compares_with_constants(self):
        for path, tree in trees():
            for node in ast.walk(tree):
                if isinstance(node, ast.Compare):
                    for operator, right in zip(node.ops, node.comparators):
                        if isinstance(operator, (ast.Is, ast.IsNot)):
                            self.assertIn(getattr(right, 'value', 0), (None, True, False), path)

    def test_sets_are_only_sorted_or_counted(self):
        for path, tree in trees():
            parents = {child: node for node in ast.walk(tree) for child in ast.iter_child_nodes(node)}
            for node in ast.walk(tree):
                if isinstance(node, ast.Call) and getattr(node.func, 'id', None) == 'set':
                    outer = parents[node]
                    while isinstance(outer, ast.BinOp):
                        outer = parents[outer]
                    good = isinstance(outer, ast.Assign) or getattr(getattr(outer, 'func', None), 'id', None) in ('sorted', 'len')
                    self.assertTrue(good, (path, node.lineno))

    def test_stars_stand_before_names(self):
        for path, tree in trees():
            for node in ast.walk(tree):
                if isinstance(node, ast.Starred):
                    self.assertIsInstance(node.value, (ast.Name, ast.Attribute), (path, node.lineno))

    def test_own_errors_alone_are_caught(self):
        own = {node.name for _, tree in trees() for node in ast.walk(tree) if isinstance(node, ast.ClassDef)}
        for path, tree in trees():
            for node in ast.walk(tree):
                if isinstance(node, ast.ExceptHandler):
                    self.assertIn(node.type.id, own, path)

    def test_raised_errors_are_made_on_the_spot(self):
        for path, tree in trees():
            for node in ast.walk(tree):
                if isinstance(node, ast.Raise) and node.exc is not None:
                    self.assertIsInstance(node.exc, ast.Call, path)


class ClassesTest(unittest.TestCase):
    def classes(self):
        for _, tree in trees():
            for node in tree.body:
                if isinstance(node, ast.ClassDef):
                    yield node, [part for part in node.body if isinstance(part, ast.FunctionDef)]

    def test_methods_and_attributes_have_names_of_their_own(self):
        methods = {}
        attributes = {}
        for kind, own in self.classes():
            methods[kind.name] = [method.name for method in own]
            attributes[kind.name] = {node.attr for node in ast.walk(kind)
                                     if isinstance(node, ast.Attribute) and isinstance(node.ctx, ast.Store)}
            self.assertEqual(len(methods[kind.name]), len(set(methods[kind.name])), kind.name)
        every = set().union(*methods.values())
        for name, found in attributes.items():
            self.assertFalse(found & every, name)
            self.assertFalse(found & (set(dir(list)) | set(dir(dict)) | {'args', 'encode', 'decode', 'hex', 'format'}) - {'index', 'count'}, name)

    def test_special_methods(self):
        for kind, methods in self.classes():
            for method in methods:
                if not method.name.startswith('__'):
                    continue
                self.assertIn(method.name, ('__init__', '__eq__', '__len__', '__str__'), kind.name)
                returns = [node.value for node in ast.walk(method) if isinstance(node, ast.Return)]
                if method.name == '__init__':
                    self.assertFalse(returns, kind.name)
                if method.name == '__len__':
                    self.assertEqual([value.func.id for value in returns], ['len'], kind.name)
                if method.name == '__str__':
                    self.assertTrue(all(isinstance(value, ast.JoinedStr) for value in returns), kind.name)
                if method.name != '__init__':
                    self.assertIsInstance(method.body[-1], ast.Return)
                    self.assertFalse([node for node in ast.walk(method) if isinstance(node, (ast.Assign, ast.AugAssign, ast.Delete))])


if __name__ == '__main__':
    unittest.main()
