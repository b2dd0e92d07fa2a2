"""The rules of the language that can be seen without running the package, and the interface's names."""

import ast
import builtins
import inspect
import pathlib
import re
import unittest

from onepurse import (boards, closing, counting, desk, goings, machines, makers, marks, pages, prices, shop, tables,
                      tongue, verdicts, words)

PACKAGE = pathlib.Path(__file__).resolve().parent.parent / "onepurse"
BUILTINS = set(
    "len range enumerate zip min max sum abs sorted reversed int str bool bytes list tuple dict set frozenset "
    "isinstance ord repr any all divmod iter next ValueError IndexError LookupError KeyError".split()
)
METHODS = set(
    "__init__ __eq__ __repr__ __str__ __len__ __enter__ __exit__ __call__ __iter__".split()
)
BARRED = re.compile(
    r"\b(type|typing|typing_extensions|enum|Enum|IntEnum|StrEnum|Flag|IntFlag|Generic|Protocol|ABC|ABCMeta|namedtuple"
    r"|NamedTuple|TypedDict|TYPE_CHECKING|abstractmethod)\b|dataclass|overload|contextmanager"
)
NOT_NAMES = set("register mro elements open input version_info with_traceback add_note format format_map".split())
FORBIDDEN = (
    ast.Global, ast.AsyncFunctionDef, ast.AsyncFor, ast.AsyncWith, ast.Await, ast.Import, ast.Div, ast.MatMult,
)

SIGNATURES = {
    marks.spend: "(purses, deed)", marks.peak: "(deeds)", marks.mark_of: "(deeds)", marks.behind: "(one, other)",
    marks.best: "(marks)", marks.again: "(mark)",
    machines.Machine: "(rooms, letters, arrows=(), *, firsts=(0,), lasts=(0,))",
    machines.Machine.rooms: "(self)", machines.Machine.letters: "(self)", machines.Machine.arrows: "(self)",
    machines.Machine.firsts: "(self)", machines.Machine.lasts: "(self)",
    machines.Machine.steps: "(self, room, letter)", machines.Machine.with_arrow: "(self, arrow)",
    machines.Machine.without_arrow: "(self, arrow)", machines.Machine.turned_first: "(self, room)",
    machines.Machine.turned_last: "(self, room)", machines.Machine.lets: "(self, word)",
    machines.Machine.need_word: "(self, word)",
    words.is_pattern: "(text, letters)", words.length_of: "(pattern, goings)", words.unrolled: "(pattern, goings)",
    boards.least_ones: "(triples)", boards.first_board: "(machine)",
    boards.next_board: "(machine, board, letter, *, size)", boards.board_of: "(machine, word, *, size)",
    boards.ends_well: "(machine, board)",
    prices.price: "(machine, word)", prices.way: "(machine, word)", prices.way_price: "(machine, word, arrows)",
    prices.shut_rows: "(machine, word, *, size)", prices.shut_holds: "(machine, word, rows, *, size)",
    tables.letter_table: "(machine, letter)", tables.still_table: "(rooms)", tables.times: "(one, other)",
    tables.is_steady: "(table)", tables.raised: "(table)", tables.read_off: "(machine, table)",
    tables.pattern_table: "(machine, pattern)",
    closing.closing: "(machine, *, most=400)", closing.dear_pattern: "(machine, *, most=400)",
    verdicts.first_dear: "(machine, size, *, most=1000)", verdicts.is_enough: "(machine, size, *, most=1000)",
    verdicts.verdict: "(machine, *, most=1000)", verdicts.verdict_holds: "(machine, told)",
    goings.price_often: "(machine, pattern, goings)", goings.how_often: "(machine, pattern, number, *, most=400)",
    makers.turned: "(machine)", makers.beside: "(one, other)", makers.within: "(machine, sieve)",
    makers.bare: "(machine)", makers.trimmed: "(machine)", makers.cheap: "(machine, size)",
    makers.pieces: "(machine)",
    tongue.read_tolls: "(text)", tongue.tolls_text: "(tree)", tongue.machine_of: "(tree, letters)",
    tongue.readings: "(tree, word)",
    counting.counts: "(machine, length)", counting.dearest: "(machine, length)",
    shop.Shop: "()", shop.Shop.do: "(self, deed)", shop.Shop.undo: "(self)", shop.Shop.redo: "(self)",
    shop.Shop.deeds: "(self)", shop.Shop.undone: "(self)", shop.Shop.machines: "(self)",
    shop.Shop.travellers: "(self)", shop.Shop.machine: "(self, name)", shop.Shop.traveller: "(self, name)",
    shop.Shop.board: "(self, name)", shop.Shop.ask: "(self, name)", shop.Shop.searched: "(self)",
    shop.Shop.twin: "(self)",
    pages.page: "(shop)", pages.shop_of: "(text)",
    desk.Desk: "(shop=None)", desk.Desk.say: "(self, line)", desk.Desk.shop: "(self)",
}
# The methods of builtin values that may be called, and attributes of objects that may be called as such methods are.
BUILTIN_METHODS = set(
    "append clear copy count endswith extend find get index insert isalnum isalpha isdigit islower isspace isupper "
    "items join keys ljust lower lstrip partition pop remove replace reverse rfind rjust rpartition rsplit rstrip "
    "setdefault split splitlines startswith strip update upper values zfill bit_length".split()
)
FREE_NAMES = BUILTIN_METHODS | {"add", "discard"}
FREE_ATTRIBUTES = set("count index title find get join lower upper split strip copy add".split())
# What is iterated over on the spot, and where it may stand beside a loop.
AT_ONCE = set("zip enumerate reversed range".split())
TAKING = set("list tuple dict sorted sum any all enumerate zip min max reversed".split())


def files():
    return sorted(PACKAGE.glob("*.py"))


def nodes():
    for path in files():
        for node in ast.walk(ast.parse(path.read_text())):
            yield path.name, node


def names_of(node):
    """Each name that a piece of code uses or gives."""
    for field in ("id", "attr", "arg", "name", "asname"):
        name = getattr(node, field, None)
        if isinstance(name, str):
            yield name


class Texts(unittest.TestCase):
    def test_only_plain_files(self):
        for path in PACKAGE.iterdir():
            if path.name != "__pycache__":
                self.assertRegex(path.name, r"^[a-z0-9_]+\.py$")

    def test_lines_and_signs(self):
        for path in files():
            text = path.read_text()
            self.assertLessEqual(len(text.splitlines()), 400, path.name)
            for at, line in enumerate(text.split("\n"), 1):
                self.assertLessEqual(len(line), 120, (path.name, at))
                self.assertRegex(line, r"^[ -~]*$", (path.name, at))

    def test_barred_words(self):
        for path in files():
            self.assertIsNone(BARRED.search(path.read_text()), path.name)


class Code(unittest.TestCase):
    def test_functions_are_short(self):
        for name, node in nodes():
            if isinstance(node, ast.FunctionDef):
                self.assertLessEqual(node.end_lineno - node.lineno + 1, 40, (name, node.name))

    def test_statements_and_signs(self):
        for name, node in nodes():
            self.assertNotIsInstance(node, FORBIDDEN, name)
            if isinstance(node, ast.Constant):
                self.assertNotIsInstance(node.value, (float, complex), name)
                self.assertNotIn("%", str(node.value), name)

    def test_imports(self):
        for name, node in nodes():
            if isinstance(node, ast.ImportFrom):
                self.assertEqual(node.level, 0, name)
                self.assertRegex(node.module, r"^onepurse\.[a-z]+$", name)
                self.assertNotIn("*", [alias.name for alias in node.names], name)

    def test_names(self):
        for file, node in nodes():
            for name in names_of(node):
                self.assertNotIn(name, NOT_NAMES, file)
                if name not in METHODS:
                    self.assertRegex(name, r"^[A-Za-z][A-Za-z0-9_]*(\.[a-z]+)?$", file)

    def test_builtins(self):
        for file, node in nodes():
            if isinstance(node, ast.Name) and node.id in dir(builtins):
                self.assertIn(node.id, BUILTINS, file)

    def test_lists_instead_of_generators(self):
        for name, node in nodes():
            self.assertNotIsInstance(node, ast.GeneratorExp, name)

    def test_iterated_at_once(self):
        for path in files():
            tree = ast.parse(path.read_text())
            allowed = set()
            for node in ast.walk(tree):
                if isinstance(node, (ast.For, ast.comprehension)):
                    allowed.add(node.iter)
                if isinstance(node, ast.Call) and isinstance(node.func, ast.Name) and node.func.id in TAKING:
                    allowed.update(node.args[:1])
            for node in ast.walk(tree):
                if isinstance(node, ast.Call):
                    named = isinstance(node.func, ast.Name) and node.func.id in AT_ONCE
                    of_dict = isinstance(node.func, ast.Attribute) and node.func.attr in ("items", "keys", "values")
                    if named or of_dict:
                        self.assertIn(node, allowed, (path.name, node.lineno))

    def test_names_come_from_where_they_are_defined(self):
        defined = {}
        for path in files():
            names = defined.setdefault(path.stem, set())
            for node in ast.parse(path.read_text()).body:
                if isinstance(node, (ast.FunctionDef, ast.ClassDef)):
                    self.assertNotIn(node.name, names, path.name)
                    names.add(node.name)
                if isinstance(node, ast.Assign):
                    names.update([target.id for target in node.targets])
        for file, node in nodes():
            if isinstance(node, ast.ImportFrom):
                for alias in node.names:
                    self.assertIn(alias.name, defined[node.module.split(".")[1]], file)

    def test_no_local_name_hides_another(self):
        for path in files():
            tree = ast.parse(path.read_text())
            taken = set(dir(builtins))
            for node in tree.body:
                if isinstance(node, ast.ImportFrom):
                    taken.update([alias.name for alias in node.names])
                if isinstance(node, (ast.FunctionDef, ast.ClassDef)):
                    taken.add(node.name)
            for node in ast.walk(tree):
                if isinstance(node, ast.Name) and isinstance(node.ctx, ast.Store):
                    self.assertNotIn(node.id, taken, path.name)
                if isinstance(node, ast.arg):
                    self.assertNotIn(node.arg, taken, path.name)

    def test_is_only_with_none_true_false(self):
        for name, node in nodes():
            if isinstance(node, ast.Compare):
                for sign, right in zip(node.ops, node.comparators):
                    if isinstance(sign, (ast.Is, ast.IsNot)):
                        self.assertIsInstance(right, ast.Constant, name)
                        self.assertIn(right.value, (None, True, False), name)

    def test_no_name_is_a_method_and_an_attribute(self):
        methods, attributes = set(), set()
        for name, node in nodes():
            if isinstance(node, ast.ClassDef):
                methods.update([part.name for part in node.body if isinstance(part, ast.FunctionDef)])
            if isinstance(node, ast.Attribute) and isinstance(node.ctx, ast.Store):
                attributes.add(node.attr)
        self.assertEqual(methods & attributes, set())


    def test_methods_and_attributes_have_free_names(self):
        taken = set()
        for kind in (str, int, list, dict, set, bytes, tuple):
            taken.update(dir(kind))
        own = set()
        for name, node in nodes():
            if isinstance(node, ast.ClassDef):
                for part in node.body:
                    if isinstance(part, ast.FunctionDef) and part.name not in METHODS:
                        own.add(part.name)
                        self.assertNotIn(part.name, taken - FREE_NAMES, name)
            if isinstance(node, ast.Attribute) and isinstance(node.ctx, ast.Store):
                self.assertNotIn(node.attr, taken - FREE_ATTRIBUTES, name)
        for name, node in nodes():
            if isinstance(node, ast.Call) and isinstance(node.func, ast.Attribute):
                self.assertIn(node.func.attr, own | BUILTIN_METHODS | {"__init__"}, (name, node.lineno))

    def test_each_attribute_that_is_read_is_assigned(self):
        assigned, methods = set(), set()
        for name, node in nodes():
            if isinstance(node, ast.Attribute) and isinstance(node.ctx, ast.Store):
                assigned.add(node.attr)
            if isinstance(node, ast.FunctionDef):
                methods.add(node.name)
        for name, node in nodes():
            if isinstance(node, ast.Attribute) and isinstance(node.ctx, ast.Load):
                self.assertIn(node.attr, assigned | methods | BUILTIN_METHODS, (name, node.lineno))

    def test_no_files_import_one_another(self):
        needs = {path.stem: set() for path in files()}
        for name, node in nodes():
            if isinstance(node, ast.ImportFrom):
                needs[name[:-3]].add(node.module.split(".")[1])
        while needs:
            free = {name for name, others in needs.items() if not others & set(needs)}
            self.assertTrue(free, needs)
            needs = {name: others for name, others in needs.items() if name not in free}

    def test_sets_stand_only_where_they_are_used_up(self):
        for path in files():
            tree = ast.parse(path.read_text())
            allowed = set()
            for node in ast.walk(tree):
                if isinstance(node, ast.Call) and isinstance(node.func, ast.Name) and node.func.id in ("sorted", "len"):
                    allowed.update(node.args[:1])
            for node in ast.walk(tree):
                named = isinstance(node, ast.Call) and isinstance(node.func, ast.Name) and node.func.id == "set"
                if named or isinstance(node, (ast.SetComp, ast.Set)):
                    self.assertIn(node, allowed, (path.name, node.lineno))

    def test_no_own_error_is_caught_by_a_wide_name(self):
        for name, node in nodes():
            if isinstance(node, ast.ExceptHandler):
                caught = node.type.elts if isinstance(node.type, ast.Tuple) else [node.type]
                for each in caught:
                    self.assertNotIn(each.id, dir(builtins), (name, node.lineno))

    def test_module_level(self):
        for path in files():
            for at, node in enumerate(ast.parse(path.read_text()).body):
                docstring = at == 0 and isinstance(node, ast.Expr) and isinstance(node.value, ast.Constant)
                if not docstring:
                    self.assertIsInstance(node, (ast.ImportFrom, ast.FunctionDef, ast.ClassDef, ast.Assign), path.name)

    def test_what_a_loop_goes_over_stays(self):
        changing = set("append clear extend insert pop remove reverse setdefault update".split())
        for name, node in nodes():
            if isinstance(node, ast.For) and isinstance(node.iter, ast.Name):
                for part in ast.walk(node):
                    if isinstance(part, ast.Call) and isinstance(part.func, ast.Attribute):
                        if part.func.attr in changing and isinstance(part.func.value, ast.Name):
                            self.assertNotEqual(part.func.value.id, node.iter.id, (name, part.lineno))
                    if isinstance(part, ast.Subscript) and isinstance(part.ctx, (ast.Store, ast.Del)):
                        if isinstance(part.value, ast.Name):
                            self.assertNotEqual(part.value.id, node.iter.id, (name, part.lineno))


class Interface(unittest.TestCase):
    def test_arguments(self):
        for thing, told in SIGNATURES.items():
            self.assertEqual(str(inspect.signature(thing)), told, thing)

    def test_methods_stand_in_the_class(self):
        listed = {
            machines.Machine: "rooms letters arrows firsts lasts steps with_arrow without_arrow turned_first turned_last "
                              "lets need_word __init__ __eq__ __len__ __repr__",
            shop.Shop: "do undo redo deeds undone machines travellers machine traveller board ask searched twin "
                       "__init__ __eq__ __len__ __repr__",
            desk.Desk: "say shop __init__",
        }
        for kind, names in listed.items():
            for name in names.split():
                self.assertIn(name, vars(kind))


if __name__ == "__main__":
    unittest.main()
