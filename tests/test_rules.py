"""The plainest rules of the language in which the package is written."""

import ast
import builtins
import unittest
from pathlib import Path

PACKAGE = Path(__file__).resolve().parent.parent / 'threeroadcars'
LIBRARY = ('heapq', 'math', 'itertools', 'collections')
BUILTINS = (
    'len range enumerate zip min max sum abs sorted reversed int str bool list tuple dict set isinstance '
    'ord repr any all divmod map ValueError TypeError KeyError IndexError'
).split()
VALUE_METHODS = (
    'append clear copy count endswith extend find get index insert isalnum isalpha isdigit islower isspace isupper '
    'items join keys ljust lower lstrip partition pop remove replace reverse rfind rjust rpartition rsplit rstrip '
    'setdefault split splitlines startswith strip update upper values zfill bit_length'
).split()
METHODS = ('__init__', '__eq__', '__len__', '__enter__', '__exit__')


def files():
    return sorted(path for path in PACKAGE.iterdir() if path.name != '__pycache__')


def trees():
    return {path.stem: ast.parse(path.read_text('ascii')) for path in files()}


def imported(tree):
    return [row for row in tree.body if isinstance(row, ast.ImportFrom)]


class Rules(unittest.TestCase):

    def test_the_folder_contains_nothing_but_files_of_the_package(self):
        for path in files():
            self.assertRegex(path.name, r'^[a-z_]+\.py$')
        self.assertIn('__init__.py', [path.name for path in files()])

    def test_sizes_and_signs(self):
        for path in files():
            text = path.read_bytes().decode('ascii')
            self.assertTrue(all(sign == '\n' or ' ' <= sign <= '~' for sign in text), path.name)
            lines = text.split('\n')
            self.assertLessEqual(len(lines) - 1, 399, path.name)
            self.assertLessEqual(max(len(line) for line in lines), 120, path.name)

    def test_functions_are_small(self):
        for name, tree in trees().items():
            for node in ast.walk(tree):
                if isinstance(node, ast.FunctionDef):
                    self.assertLessEqual(node.end_lineno - node.lineno + 1, 40, (name, node.name))
                    self.assertFalse(node.name.startswith('__') and node.name not in METHODS, (name, node.name))

    def test_imports_name_the_file_that_defines_the_name(self):
        every = trees()
        for name, tree in every.items():
            for row in imported(tree):
                if row.module in LIBRARY:
                    continue
                package, source = row.module.split('.')
                self.assertEqual((package, row.level), ('threeroadcars', 0))
                for each in row.names:
                    self.assertIsNone(each.asname)
                    self.assertIn(each.name, names_of(every[source]), (name, row.module))

    def test_no_other_imports(self):
        for name, tree in trees().items():
            rows = [node for node in ast.walk(tree) if isinstance(node, (ast.Import, ast.ImportFrom))]
            self.assertEqual(rows, imported(tree), name)

    def test_files_do_not_import_from_each_other(self):
        sources = {
            name: {row.module.split('.')[-1] for row in imported(tree)} & set(trees())
            for name, tree in trees().items()
        }
        while sources:
            ready = [name for name, needed in sources.items() if not needed & set(sources)]
            self.assertTrue(ready, sources)
            for name in ready:
                del sources[name]

    def test_builtins(self):
        # `_` is a builtin name as soon as an example was run.
        for name, tree in trees().items():
            for node in ast.walk(tree):
                if isinstance(node, ast.Name) and hasattr(builtins, node.id) and node.id != '_':
                    self.assertIn(node.id, BUILTINS, name)

    def test_names_that_are_given(self):
        """None is a builtin's; parameters and variables have no name of an import or a class of their file."""
        for name, tree in trees().items():
            taken = [each.name for row in imported(tree) for each in row.names]
            taken += [row.name for row in tree.body if isinstance(row, ast.ClassDef)]
            for given in set(locals_of(tree)) - {'_'}:
                self.assertNotIn(given, taken, name)
                self.assertFalse(hasattr(builtins, given), (name, given))
            there = names_of(tree) + [each.name for row in imported(tree) for each in row.names]
            self.assertEqual(len(there), len(set(there)), name)
            self.assertFalse([each for each in there if hasattr(builtins, each)], name)

    def test_methods(self):
        own = [row.name for tree in trees().values() for row in ast.walk(tree) if isinstance(row, ast.FunctionDef)]
        for name, tree in trees().items():
            for node in ast.walk(tree):
                if isinstance(node, ast.Call) and isinstance(node.func, ast.Attribute):
                    self.assertIn(node.func.attr, VALUE_METHODS + own, name)

    def test_ranges_and_their_kin_are_not_returned_or_passed_on(self):
        kin = ('range', 'zip', 'enumerate', 'reversed', 'map')
        for name, tree in trees().items():
            for node in ast.walk(tree):
                if isinstance(node, (ast.Return, ast.Dict, ast.Tuple, ast.List)):
                    for each in ast.iter_child_nodes(node):
                        self.assertFalse(isinstance(each, ast.Call) and getattr(each.func, 'id', '') in kin, name)

    def test_is_stands_beside_none_true_and_false_alone(self):
        for name, tree in trees().items():
            for node in ast.walk(tree):
                if isinstance(node, ast.Compare) and any(isinstance(sign, (ast.Is, ast.IsNot)) for sign in node.ops):
                    self.assertIn(repr(getattr(node.comparators[0], 'value', 0)), ('None', 'True', 'False'), name)

    def test_tests_of_blocks_ends_ask_by_is_none_alone(self):
        exits = [node for tree in trees().values() for node in ast.walk(tree)
                 if isinstance(node, ast.FunctionDef) and node.name == '__exit__']
        asked = [node.test for each in exits for node in ast.walk(each) if isinstance(node, ast.If)]
        self.assertTrue(asked)
        for test in asked:
            self.assertTrue(asks_by_is_none(test), ast.unparse(test))

    def test_which_tests_ask_by_is_none_alone(self):
        for text, told in (('self.kept is None', True), ('kind is not None or self.kept is None', True),
                           ('not (kind is None and a.b is None)', True), ('self.kept', False), ('not self.kept', False),
                           ('kind is not None or self.kept', False), ('self.kept is True', False),
                           ('None is kind', False), ('kind == None', False), ('told[0] is None', False)):
            self.assertIs(asks_by_is_none(ast.parse(text, mode='eval').body), told, text)

    def test_calls_with_stars(self):
        for name, tree in trees().items():
            for node in ast.walk(tree):
                if isinstance(node, ast.Call):
                    self.assertTrue(may_have_its_stars(node), (name, ast.unparse(node)))

    def test_which_calls_may_have_stars(self):
        for text, told in (('bench.flip(*given)', True), ('f(k, *self.rows, (1, a))', True), ('zip(*rows)', True),
                           ('max(*rows)', True), ('bench.join(one, other, road)', True), ('bench.join(*given)', False),
                           ('words.count(*given)', False), ('sorted(*rows)', False), ('f(*rows[1:])', False),
                           ('f(*rows, g(1))', False), ('f(**told)', True), ('f(k=1, **told)', False)):
            self.assertIs(may_have_its_stars(ast.parse(text, mode='eval').body), told, text)

    def test_no_points_no_division_no_generator_expressions(self):
        for name, tree in trees().items():
            for node in ast.walk(tree):
                self.assertNotIsInstance(node, (ast.Div, ast.GeneratorExp), name)
                self.assertFalse(isinstance(node, ast.Constant) and isinstance(node.value, float), name)


def asks_by_is_none(test):
    """Whether a test asks names and attributes whether they are None, and nothing else."""
    if isinstance(test, ast.BoolOp):
        return all(asks_by_is_none(part) for part in test.values)
    if isinstance(test, ast.UnaryOp):
        return isinstance(test.op, ast.Not) and asks_by_is_none(test.operand)
    return (
        isinstance(test, ast.Compare)
        and isinstance(test.left, (ast.Name, ast.Attribute))
        and len(test.ops) == 1
        and isinstance(test.ops[0], (ast.Is, ast.IsNot))
        and getattr(test.comparators[0], 'value', 0) is None
    )


def is_plain_argument(node):
    """Whether something may stand behind a star, or beside one, in a call."""
    if isinstance(node, (ast.List, ast.Tuple)):
        return all(is_plain_argument(part) for part in node.elts)
    if isinstance(node, ast.Attribute):
        return isinstance(node.value, ast.Name)
    return isinstance(node, (ast.Name, ast.Constant))


def may_have_its_stars(call):
    """Whether a call has no star, or is one in which its stars may stand."""
    stars = [each.value for each in call.args if isinstance(each, ast.Starred)]
    twice = [each.value for each in call.keywords if each.arg is None]
    if not stars and not twice:
        return True
    if twice and len(call.keywords) > 1:
        return False
    if isinstance(call.func, ast.Attribute) and call.func.attr in VALUE_METHODS:
        return False
    if isinstance(call.func, ast.Name) and call.func.id in set(BUILTINS) - {'max', 'min', 'zip'}:
        return False
    beside = [each for each in call.args if not isinstance(each, ast.Starred)] + [each.value for each in call.keywords]
    return all(is_plain_argument(each) for each in [*stars, *twice, *beside])


def names_of(tree):
    """The names that a file defines at module level."""
    names = [row.name for row in tree.body if isinstance(row, (ast.FunctionDef, ast.ClassDef))]
    rows = [row for row in tree.body if isinstance(row, ast.Assign)]
    return names + [target.id for row in rows for target in row.targets]


def locals_of(tree):
    """The names of all parameters and variables of functions."""
    names = []
    for node in ast.walk(tree):
        if isinstance(node, ast.FunctionDef):
            names += [each.arg for each in ast.walk(node) if isinstance(each, ast.arg)]
            names += [each.id for each in ast.walk(node)
                      if isinstance(each, ast.Name) and isinstance(each.ctx, ast.Store)]
    return names
