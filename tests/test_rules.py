"""The rules of the language that can be seen in the package's files, and its interface."""

import ast
import builtins
import importlib
import inspect
import os
import re
import unittest

FOLDER = os.path.join(os.path.dirname(os.path.dirname(os.path.abspath(__file__))), "latehall")
FILES = sorted([name for name in os.listdir(FOLDER) if name != "__pycache__"])
ALLOWED = {"len", "range", "enumerate", "zip", "min", "max", "sum", "abs", "sorted", "reversed", "int", "str", "bool",
           "list", "tuple", "dict", "set", "isinstance", "ord", "repr", "any", "all", "divmod", "super"}
BUILTINS = set(dir(builtins))
ERRORS = {"Exception", "ValueError", "KeyError", "IndexError", "LookupError", "RuntimeError", "OverflowError"}
SPECIAL = {"__init__", "__eq__", "__len__"}
# The methods of lists, dicts, texts and numbers of which rule L25 speaks first.
METHODS = set("""append clear copy count endswith extend find get index insert isalnum isalpha isdigit islower isspace
isupper items join keys ljust lower lstrip partition pop remove replace reverse rfind rjust rpartition rsplit rstrip
setdefault split splitlines startswith strip update upper values zfill bit_length""".split())

# The functions and classes of the interface that have landed, by their files.
INTERFACE = {
    "errors": ["NoLibrary", "Unmet", "Closed", "Ended", "NoWord", "Full", "NoText", "NotTaken", "Vacant", "NoRow"],
    "libraries": ["is_library", "is_shelf"],
    "texts": ["shown", "shown_shelf", "read", "read_shelf"],
    "walks": ["walk_of"],
    "order": ["parts_of", "order_of", "wrong_at", "round_of"],
    "meanings": ["fits", "meaning", "is_meaning"],
    "tables": ["word_number", "table_of", "is_table", "sought", "is_sought"],
    "halls": ["Hall"],
    "holds": ["Hold"],
    "nets": ["reached", "way_to", "is_way", "is_cut"],
    "history": ["played"],
    "plain": ["read", "read_on", "state_behind"],
    "late": ["parted"],
    "images": ["name_number", "name_of", "image", "begins", "filled", "wrong_place"],
    "rooms": ["Room"],
    "plants": ["Plant"],
    "reckoned": ["reckoned", "wrong_row", "conflicts", "mended"],
    "desk": ["Desk"],
}

# What the interface's functions and methods are handed; behind a star by its name alone.
HANDED = {
    "walks.walk_of": "(shelf, name, *, ahead=())",
    "order.parts_of": "(shelf, name)",
    "order.order_of": "(shelf, name)",
    "order.wrong_at": "(shelf, name, thing)",
    "order.round_of": "(shelf, one, other)",
    "meanings.fits": "(give, use)",
    "meanings.meaning": "(scope, use, *, faint=False)",
    "meanings.is_meaning": "(scope, use, thing, *, faint=False)",
    "tables.word_number": "(word)",
    "tables.table_of": "(library, *, buckets=4, width=32)",
    "tables.is_table": "(library, thing)",
    "tables.sought": "(library, table, use, *, faint=False)",
    "tables.is_sought": "(library, table, use, thing, *, faint=False)",
    "nets.reached": "(net)",
    "nets.way_to": "(net, number)",
    "nets.is_way": "(net, number, thing)",
    "nets.is_cut": "(net, thing)",
    "halls.Hall": "(shelf, main, *, ahead=(), early=False, faint=False)",
    "halls.Hall.bring": "(self, name, *, shared=False, early=False, apart=False)",
    "halls.Hall.drop": "(self, hold)",
    "halls.Hall.hold": "(self, number)",
    "halls.Hall.look": "(self, hold, word, *, version='', cell=False)",
    "halls.Hall.call": "(self, hold, word, *, version='')",
    "halls.Hall.show": "(self, hold, word, *, version='')",
    "halls.Hall.shelve": "(self, library)",
    "halls.Hall.end": "(self)",
    "halls.Hall.told": "(self)",
    "halls.Hall.__len__": "(self)",
    "halls.Hall.stands": "(self)",
    "halls.Hall.held": "(self)",
    "halls.Hall.walk": "(self, number)",
    "halls.Hall.scope": "(self, number)",
    "halls.Hall.all_of": "(self, space)",
    "halls.Hall.means": "(self, number)",
    "halls.Hall.cells_of": "(self, number)",
    "halls.Hall.beginning": "(self)",
    "halls.Hall.net": "(self)",
    "halls.Hall.why": "(self, number)",
    "halls.Hall.gone": "(self)",
    "halls.Hall.state": "(self)",
    "halls.Hall.turned_by": "(self, library)",
    "history.played": "(shelf, main, calls, *, ahead=(), early=False, faint=False)",
    "plain.read": "(shelf, main, calls, *, ahead=(), early=False, faint=False)",
    "plain.read_on": "(state, calls)",
    "plain.state_behind": "(shelf, main, calls, *, ahead=(), early=False, faint=False)",
    "late.parted": "(shelf, main, calls, *, ahead=(), faint=False)",
    "images.name_number": "(name)",
    "images.name_of": "(number)",
    "images.image": "(library)",
    "images.begins": "(library)",
    "images.filled": "(image, base, addresses)",
    "images.wrong_place": "(library, base, thing)",
    "rooms.Room": "()",
    "rooms.Room.take": "(self, length)",
    "rooms.Room.give_back": "(self, at)",
    "rooms.Room.taken": "(self)",
    "rooms.Room.height": "(self)",
    "plants.Plant": "(shelf, main, *, ahead=(), early=False, faint=False, pad=0)",
    "plants.Plant.bring": "(self, name, *, shared=False, early=False, apart=False)",
    "plants.Plant.drop": "(self, hold)",
    "plants.Plant.hold": "(self, number)",
    "plants.Plant.look": "(self, hold, word, *, version='', cell=False)",
    "plants.Plant.call": "(self, hold, word, *, version='')",
    "plants.Plant.show": "(self, hold, word, *, version='')",
    "plants.Plant.shelve": "(self, library)",
    "plants.Plant.end": "(self)",
    "plants.Plant.told": "(self)",
    "plants.Plant.__len__": "(self)",
    "plants.Plant.state": "(self)",
    "plants.Plant.images": "(self)",
    "plants.Plant.number_at": "(self, address)",
    "reckoned.reckoned": "(shelf, main, *, loads=(), faint=False)",
    "reckoned.wrong_row": "(shelf, main, rows, *, loads=(), faint=False)",
    "reckoned.conflicts": "(rows, other)",
    "reckoned.mended": "(rows, told, order)",
    "desk.Desk": "()",
    "desk.Desk.say": "(self, row)",
}


def text_of(name):
    with open(os.path.join(FOLDER, name), "rb") as file:
        return file.read().decode("ascii")


def names_bound(tree):
    for node in ast.walk(tree):
        if isinstance(node, (ast.FunctionDef, ast.ClassDef)):
            yield node.name
        elif isinstance(node, ast.arg):
            yield node.arg
        elif isinstance(node, ast.Name) and isinstance(node.ctx, ast.Store):
            yield node.id


class Rules(unittest.TestCase):
    def setUp(self):
        self.texts = {name: text_of(name) for name in FILES}
        self.trees = {name: ast.parse(self.texts[name]) for name in FILES}

    def nodes(self):
        return [(name, node) for name in FILES for node in ast.walk(self.trees[name])]

    def test_files(self):
        self.assertIn("__init__.py", FILES)
        for name in FILES:
            self.assertRegex(name, r"^[a-z_]+\.py$")

    def test_signs_and_sizes(self):
        for name, text in self.texts.items():
            self.assertIsNone(re.search(r"[^ -~\n]", text), name)
            lines = text.splitlines()
            self.assertLess(len(lines), 400, name)
            self.assertLessEqual(max([len(line) for line in lines]), 120, name)
        for name, node in self.nodes():
            if isinstance(node, ast.FunctionDef):
                self.assertLessEqual(node.end_lineno - node.lineno + 1, 40, (name, node.name))

    def test_imports(self):
        for name, node in self.nodes():
            self.assertNotIsInstance(node, ast.Import, name)
            if isinstance(node, ast.ImportFrom):
                self.assertIn(node, self.trees[name].body)
                self.assertTrue(node.module.startswith("latehall."), name)
                self.assertEqual((node.level, [part.asname for part in node.names if part.asname]), (0, []), name)

    def test_module_level(self):
        for name, tree in self.trees.items():
            for node in tree.body:
                is_docstring = isinstance(node, ast.Expr) and isinstance(node.value, ast.Constant)
                kinds = (ast.ImportFrom, ast.FunctionDef, ast.ClassDef, ast.Assign)
                self.assertTrue(is_docstring or isinstance(node, kinds), (name, ast.dump(node)))
                if isinstance(node, ast.Assign):
                    self.assertFalse([part for part in ast.walk(node) if isinstance(part, ast.Call)], name)

    def test_names(self):
        for name, tree in self.trees.items():
            for word in names_bound(tree):
                self.assertNotIn(word, BUILTINS, name)
        for name, node in self.nodes():
            if isinstance(node, ast.Name) and node.id in BUILTINS:
                self.assertIn(node.id, ALLOWED | ERRORS, name)

    def test_strings_and_numbers(self):
        for name, node in self.nodes():
            if isinstance(node, ast.Constant):
                self.assertNotIsInstance(node.value, float, name)
                self.assertFalse(isinstance(node.value, str) and "%" in node.value, name)
            self.assertNotIsInstance(getattr(node, "op", None), ast.Div, name)


    def test_no_generators_decorators_annotations(self):
        barred = (ast.GeneratorExp, ast.Yield, ast.YieldFrom, ast.AnnAssign, ast.Global, ast.Lambda)
        for name, node in self.nodes():
            self.assertNotIsInstance(node, barred, name)
            if isinstance(node, (ast.FunctionDef, ast.ClassDef)):
                self.assertEqual(node.decorator_list, [], name)
            if isinstance(node, ast.FunctionDef):
                self.assertIsNone(node.returns, name)
                if node.name.startswith("__"):
                    self.assertIn(node.name, SPECIAL, name)
            if isinstance(node, ast.arg):
                self.assertIsNone(node.annotation, name)

    def test_is_beside_none_or_self(self):
        for name, node in self.nodes():
            if isinstance(node, ast.Compare) and isinstance(node.ops[0], (ast.Is, ast.IsNot)):
                right = node.comparators[0]
                self.assertTrue(isinstance(right, ast.Constant) and right.value is None
                                or isinstance(right, ast.Name) and right.id == "self", (name, node.lineno))

    def test_imports_name_the_file_that_defines(self):
        reads = {}
        for name, tree in self.trees.items():
            for node in tree.body:
                if isinstance(node, ast.ImportFrom):
                    file = node.module.split(".")[1] + ".py"
                    defined = {part.name for part in self.trees[file].body if hasattr(part, "name")}
                    defined |= {part.targets[0].id for part in self.trees[file].body if isinstance(part, ast.Assign)}
                    reads.setdefault(name, []).append(file)
                    for part in node.names:
                        self.assertIn(part.name, defined, name)
        # No file imports from itself, straight or through others.
        left = dict(reads)
        while left:
            free = [name for name in left if not [file for file in left[name] if file in left]]
            self.assertTrue(free, left)
            left = {name: left[name] for name in left if name not in free}

    def test_no_local_name_is_that_of_an_import_or_a_class(self):
        for name, tree in self.trees.items():
            taken = {part.name for node in tree.body if isinstance(node, ast.ImportFrom) for part in node.names}
            taken |= {node.name for node in tree.body if isinstance(node, ast.ClassDef)}
            bound = {node.arg for node in ast.walk(tree) if isinstance(node, ast.arg)}
            bound |= {node.id for node in ast.walk(tree) if isinstance(node, ast.Name) and isinstance(node.ctx, ast.Store)}
            self.assertEqual(bound & taken, set(), name)

    def test_methods_and_attributes(self):
        methods = {node.name for name, node in self.nodes() if isinstance(node, ast.FunctionDef)}
        stored = {node.attr for name, node in self.nodes()
                  if isinstance(node, ast.Attribute) and isinstance(node.ctx, ast.Store)}
        self.assertEqual(methods & stored, set())
        self.assertEqual(methods & METHODS, set())
        for name, node in self.nodes():
            if isinstance(node, ast.Call) and isinstance(node.func, ast.Attribute):
                self.assertIn(node.func.attr, methods | METHODS, (name, node.lineno))

    def test_only_own_errors_are_caught(self):
        own = {node.name for name in ("errors.py", "readers.py") for node in self.trees[name].body
               if isinstance(node, ast.ClassDef) and node.bases[0].id in ERRORS}
        for name, node in self.nodes():
            if isinstance(node, ast.ExceptHandler):
                kinds = node.type.elts if isinstance(node.type, ast.Tuple) else [node.type]
                for kind in kinds:
                    self.assertIn(kind.id, own, name)

    def test_what_a_loop_goes_over_is_not_modified_in_it(self):
        for name, node in self.nodes():
            if isinstance(node, ast.For):
                over = {part.id for part in ast.walk(node.iter) if isinstance(part, ast.Name)} - {"self", "ground"}
                for part in [part for row in node.body for part in ast.walk(row)]:
                    if isinstance(part, ast.Call) and isinstance(part.func, ast.Attribute):
                        base = part.func.value
                        self.assertFalse(isinstance(base, ast.Name) and base.id in over and part.func.attr in METHODS,
                                         (name, part.lineno))


class Interface(unittest.TestCase):
    def test_what_they_are_handed(self):
        for path, handed in HANDED.items():
            name, *words = path.split(".")
            thing = importlib.import_module("latehall." + name)
            for word in words:
                # A method stands in its class itself, not in one above.
                thing = vars(thing)[word]
            self.assertEqual(str(inspect.signature(thing)), handed, path)

    def test_each_is_defined_in_its_file(self):
        for name, words in INTERFACE.items():
            module = importlib.import_module("latehall." + name)
            for word in words:
                self.assertEqual(getattr(module, word).__module__, "latehall." + name)


if __name__ == "__main__":
    unittest.main()
