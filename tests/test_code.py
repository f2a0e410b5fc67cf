"""The form of the package's code, as far as it can be read off mechanically, and its interface."""

import ast
import builtins
import keyword
import pathlib
import unittest

import standsfor

FOLDER = pathlib.Path(standsfor.__file__).parent
FILES = {path.stem: path.read_text(encoding="utf-8") for path in sorted(FOLDER.glob("*.py"))}
TREES = {name: ast.parse(text) for name, text in FILES.items()}

BUILTINS = set("""len range enumerate zip min max sum abs sorted reversed int str bool list tuple dict set isinstance
ord repr any all divmod super property map ValueError TypeError KeyError NotImplemented""".split())
METHODS = set("""append clear copy count endswith extend find get index insert isalnum isalpha isdigit islower isspace
isupper items join keys ljust lower lstrip partition pop remove replace reverse rfind rjust rpartition rsplit rstrip
setdefault split splitlines startswith strip update upper values zfill bit_length isascii __init__""".split())
BARRED = set("""register mro elements open input law version_info with_traceback add_note attrgetter breakpoint compile
copyright credits delattr dir eval exec exit gc getattr globals hasattr help id importlib license locals methodcaller os
quit setattr type vars sys typing enum namedtuple dataclass""".split())
# What may be imported from the library.
LIBRARY = {"heapq": {"heappush", "heappop"}}
DUNDERS = {"__init__", "__eq__", "__len__", "__repr__", "__str__"}
STATEMENTS = (ast.Assign, ast.AugAssign, ast.If, ast.While, ast.For, ast.Return, ast.Break, ast.Continue, ast.Pass,
              ast.Raise, ast.Assert, ast.Delete, ast.Try, ast.Expr, ast.FunctionDef, ast.ClassDef, ast.ImportFrom)

# What the interface lists, with the parameters of each.
INTERFACE = {
    "errors": {"StandError": {}, "BadProgram": {}, "BadName": {}, "BadNumber": {}, "TooLong": {}, "Ended": {},
               "NothingDone": {}, "NotPlain": {}, "BadWords": {}, "BadMove": {}, "BadMark": {}, "TooMany": {},
               "NotAlike": {}, "BadEvent": {}, "NoText": {}, "BadText": {}},
    "programs": {"Program": {"__init__": "self, classes, body", "__eq__": "self, other"},
                 "with_class": "program, name, cls"},
    "runs": {"run": "program, *, most=20000", "is_run": "program, lines, end"},
    "sessions": {"Session": {"__init__": "self, program", "step": "self", "back": "self", "__len__": "self",
                             "lines": "self", "end": "self", "at": "self", "depth": "self", "names": "self",
                             "fields": "self", "run": "self, many", "trying": "self, action"}},
    "plain": {"unplain": "cls", "is_plain": "thing", "words_of": "cls", "methods_of": "cls"},
    "standings": {"first_standing": "cls", "standings": "cls"},
    "plays": {"Play": {"__init__": "self, cls, words", "standing": "self", "frames": "self", "move": "self, move",
                       "back": "self", "__len__": "self", "events": "self"},
              "played": "cls, words, moves"},
    "tables": {"alike": "one, other, *, most=2000", "alike_without_heirs": "one, other, *, most=2000",
               "table": "one, other, *, most=2000", "is_table": "one, other, thing"},
    "aparts": {"apart": "one, other, *, most=2000", "is_apart": "one, other, thing",
               "fewest_moves": "one, other, *, most=2000"},
    "tellings": {"telling": "one, other, *, most=2000", "is_telling": "one, other, thing",
                 "parts": "program, name, cls"},
    "exchange": {"exchanged": "program, name, cls, *, most=2000", "fewer_classes": "program, *, most=2000",
                 "alike_names": "program, *, most=2000", "needless_methods": "program, name"},
    "merging": {"come_to": "cls, *, most=2000", "waiting": "cls, *, most=2000", "groups": "cls, *, most=2000",
                "idle_fields": "cls, *, most=2000", "is_merge": "cls, thing", "trimmed": "cls, *, most=2000"},
    "reach": {"ever": "cls, words, event, *, most=2000", "shown": "cls, method, *, most=2000",
              "never_fails": "cls, method, *, most=2000"},
    "texts": {"program_text": "program", "event_text": "event"},
    "reading": {"read_program": "text"},
    "desks": {"Desk": {"__init__": "self", "put": "self, name, program", "drop": "self, name",
                       "exchange": "self, name, cls_name, cls", "lessen": "self, name", "undo": "self",
                       "names": "self", "program": "self, name", "lines": "self, name", "trying": "self, action",
                       "__eq__": "self, other"}},
}


def nodes(kinds):
    return [(file, node) for file, tree in TREES.items() for node in ast.walk(tree) if isinstance(node, kinds)]


def imports(tree):
    return [node for node in ast.walk(tree) if isinstance(node, (ast.Import, ast.ImportFrom))]


def top_names(tree):
    names = {node.name for node in tree.body if isinstance(node, (ast.FunctionDef, ast.ClassDef))}
    return names | {node.targets[0].id for node in tree.body if isinstance(node, ast.Assign)}


class Files(unittest.TestCase):
    def test_the_folder_holds_modules_alone(self):
        for path in FOLDER.iterdir():
            if path.name != "__pycache__":
                self.assertRegex(path.name, r"^[a-z_][a-z0-9_]*\.py$")
        for name in FILES:
            self.assertFalse(name != "__init__" and hasattr(builtins, name), name)
            self.assertFalse(name.startswith("test"), name)

    def test_sizes_and_characters(self):
        for name, text in FILES.items():
            lines = text.split("\n")
            self.assertLessEqual(len(lines), 399, name)
            for number, line in enumerate(lines, 1):
                with self.subTest(f"{name}:{number}"):
                    self.assertLessEqual(len(line), 120)
                    self.assertTrue(all(" " <= sign <= "~" for sign in line))
        for file, node in nodes(ast.FunctionDef):
            self.assertLessEqual(node.end_lineno - node.lineno + 1, 40, f"{file}.{node.name}")

    def test_imports(self):
        seen = {}
        for file, tree in TREES.items():
            for node in imports(tree):
                self.assertIsInstance(node, ast.ImportFrom)
                self.assertIn(node, tree.body)
                if node.module in LIBRARY:
                    self.assertLessEqual({alias.name for alias in node.names}, LIBRARY[node.module])
                    self.assertEqual({alias.asname for alias in node.names}, {None})
                    continue
                package, _, module = node.module.partition(".")
                self.assertEqual((package, node.level), ("standsfor", 0))
                for alias in node.names:
                    self.assertIn(alias.name, top_names(TREES[module]), f"{file}: {alias.name}")
                    self.assertIsNone(alias.asname)
                seen.setdefault(file, set()).add(module)
        while seen:
            free = [file for file, needs in seen.items() if not needs & set(seen)]
            self.assertTrue(free, f"ring of imports: {sorted(seen)}")
            for file in free:
                del seen[file]

    def test_module_level(self):
        for file, tree in TREES.items():
            for node in tree.body:
                if isinstance(node, ast.Expr):
                    self.assertIsInstance(node.value, ast.Constant, file)
                elif isinstance(node, ast.Assign):
                    for part in ast.walk(node.value):
                        self.assertNotIsInstance(part, (ast.Call, ast.Lambda, ast.ListComp, ast.DictComp), file)
                else:
                    self.assertIsInstance(node, (ast.FunctionDef, ast.ClassDef, ast.ImportFrom), file)


class Rules(unittest.TestCase):
    def test_statements(self):
        for file, node in nodes(ast.stmt):
            self.assertIsInstance(node, STATEMENTS, f"{file}:{node.lineno}")

    def test_what_is_not_used(self):
        banned = (ast.GeneratorExp, ast.Await, ast.NamedExpr, ast.Div, ast.Yield, ast.YieldFrom, ast.Global)
        self.assertEqual([(file, node.lineno) for file, node in nodes(banned)], [])
        for file, node in nodes(ast.Constant):
            self.assertNotIsInstance(node.value, (float, complex, bytes), f"{file}:{node.lineno}")
            if isinstance(node.value, str):
                self.assertNotIn("%", node.value, f"{file}:{node.lineno}")

    def test_is(self):
        for file, node in nodes(ast.Compare):
            for sign, side in zip(node.ops, node.comparators):
                if isinstance(sign, (ast.Is, ast.IsNot)):
                    self.assertIsInstance(side, ast.Constant, f"{file}:{node.lineno}")

    def test_names_that_are_read(self):
        for file, tree in TREES.items():
            known = top_names(tree) | {alias.name for node in imports(tree) for alias in node.names} | BUILTINS
            for node in ast.walk(tree):
                if isinstance(node, ast.FunctionDef):
                    known |= {arg.arg for arg in ast.walk(node.args) if isinstance(arg, ast.arg)}
                elif isinstance(node, ast.Lambda):
                    known |= {arg.arg for arg in node.args.args}
                elif isinstance(node, ast.Name) and isinstance(node.ctx, ast.Store):
                    known.add(node.id)
            for node in ast.walk(tree):
                if isinstance(node, ast.Name):
                    self.assertIn(node.id, known, f"{file}:{node.lineno}")

    def test_names_that_are_given(self):
        for file, tree in TREES.items():
            imported = {alias.name for node in imports(tree) for alias in node.names}
            taken = imported | {node.name for node in tree.body if isinstance(node, ast.ClassDef)}
            for node in ast.walk(tree):
                given = None
                if isinstance(node, ast.arg):
                    given = node.arg
                elif isinstance(node, ast.Name) and isinstance(node.ctx, ast.Store):
                    given = node.id
                if given is not None:
                    self.assertNotIn(given, taken, f"{file}:{node.lineno}")
                    self.assertFalse(hasattr(builtins, given), f"{file}:{node.lineno}: {given}")
                    self.assertNotIn(given, BARRED)
                    self.assertFalse(given.startswith("__"))
        for file, node in nodes((ast.FunctionDef, ast.ClassDef)):
            self.assertNotIn(node.name, BARRED | set(keyword.kwlist))

    def test_methods_that_are_called(self):
        own = {node.name for file, node in nodes(ast.FunctionDef)}
        for file, node in nodes(ast.Call):
            if isinstance(node.func, ast.Attribute):
                self.assertIn(node.func.attr, own | METHODS, f"{file}:{node.lineno}")

    def test_sets_are_measured_tested_or_sorted_on_the_spot(self):
        kept = set()
        for file, node in nodes((ast.Call, ast.Compare, ast.Assign)):
            if isinstance(node, ast.Call) and isinstance(node.func, ast.Name) and node.func.id in ("len", "sorted"):
                kept |= {id(arg) for arg in node.args}
            elif isinstance(node, ast.Compare):
                kept |= {id(side) for side in [node.left] + node.comparators}
            elif isinstance(node, ast.Assign):
                kept.add(id(node.value))
        for file, node in nodes((ast.Set, ast.SetComp, ast.Call)):
            if not isinstance(node, ast.Call) or isinstance(node.func, ast.Name) and node.func.id == "set":
                self.assertTrue(id(node) in kept, f"{file}:{node.lineno}")

    def test_classes(self):
        attributes = {}
        for file, node in nodes(ast.Attribute):
            if isinstance(node.ctx, ast.Store):
                attributes.setdefault(node.attr, []).append(f"{file}:{node.lineno}")
        for file, cls in nodes(ast.ClassDef):
            self.assertFalse(cls.decorator_list)
            for node in cls.body:
                if isinstance(node, ast.FunctionDef):
                    if node.name.startswith("__"):
                        self.assertIn(node.name, DUNDERS)
                    if node.decorator_list:
                        self.assertEqual([part.id for part in node.decorator_list], ["property"])
                        self.assertNotIn(node.name, attributes)
                    if node.name == "__len__":
                        told = [part.value for part in ast.walk(node) if isinstance(part, ast.Return)]
                        self.assertTrue(all(part.func.id == "len" for part in told))
                else:
                    self.assertIsInstance(node.value, ast.Constant)
            methods = {node.name for node in cls.body if isinstance(node, ast.FunctionDef)}
            own = {node.attr for node in ast.walk(cls) if isinstance(node, ast.Attribute)
                   and isinstance(node.ctx, ast.Store) and getattr(node.value, "id", "") == "self"}
            self.assertEqual(methods & own, set())


class Interface(unittest.TestCase):
    def test_names_and_parameters(self):
        for file, listed in INTERFACE.items():
            found = {node.name: node for node in TREES[file].body if isinstance(node, (ast.FunctionDef, ast.ClassDef))}
            for name, form in listed.items():
                if isinstance(form, str):
                    self.assertEqual(ast.unparse(found[name].args), form)
                    continue
                methods = {node.name: node for node in found[name].body if isinstance(node, ast.FunctionDef)}
                for method, args in form.items():
                    self.assertEqual(ast.unparse(methods[method].args), args, f"{name}.{method}")


if __name__ == "__main__":
    unittest.main()
