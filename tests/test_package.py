"""The form of the package: its modules, its names, and the plain Python that it is written in."""

import ast
import importlib
import inspect
import pathlib
import tokenize
import unittest

FOLDER = pathlib.Path(__file__).resolve().parent.parent / "restsure"

# All modules in an order in which each imports only from those ahead of it.
ORDER = ["errors", "kinds", "knots", "circuits", "cases", "readings", "webs", "delays", "laps", "lots", "swings",
         "rests", "plans", "statements", "sheets", "knowing", "moments", "instants", "derived", "makers", "wiring",
         "sights", "reached", "sureness", "machines", "alike", "watching", "games", "steering", "written", "unringed", "crowds",
         "lines", "fewest", "straight", "diagrams", "writing", "reading", "manners", "meetings", "frames", "joined",
         "faces", "opens", "pieces", "partings", "modules", "workshop"]

CASE = "circuit given held"
INTERFACE = {
    "circuits": {"is_circuit": "thing", "first_held": "circuit", "is_ringless": "circuit", "ring_gates": "circuit"},
    "readings": {"gate_reading": "table readings", "sure_readings": CASE, "is_whole": CASE, "sure_order": CASE,
                 "is_order": CASE + " thing", "closed_lot": CASE, "is_closed_lot": CASE + " order lot", "instant": CASE,
                 "run_circuit": "circuit rows", "solutions": CASE},
    "delays": {"element_list": "circuit", "is_standing": "circuit thing", "comes_to": CASE + " standing element",
               "unsettled": CASE + " standing", "stepped": CASE + " standing steps", "woven": CASE + " standing picks"},
    "laps": {"rounds": CASE + " standing steps", "laps": CASE},
    "lots": {"live_branches": CASE, "own_lots": CASE, "is_lot": CASE + " thing", "is_fair_loop": CASE + " lot thing"},
    "rests": {"rests": CASE, "settles": CASE, "is_settling": CASE + " thing"},
    "statements": {"is_statement": "thing", "is_rest": "thing", "is_program": "thing", "is_state": "program thing",
                   "plain_codes": "rest", "free_signals": "rest", "rest_paths": "rest", "rest_at": "rest path",
                   "raised": "rest many", "renamed": "rest path signal"},
    "knowing": {"must": "rest readings", "can": "rest readings", "run_parts": "rest readings"},
    "instants": {"react": "program state given", "known_at": "program state given", "shown_sure": "program state given",
                 "is_shown_sure": "program state given thing", "ways": "program state given",
                 "run_program": "program rows"},
    "derived": {"halt": "", "sustain": "s", "waiting": "s", "at_once": "s", "weakly": "s p", "strongly": "s p",
                "each": "s p", "every": "s p"},
    "wiring": {"circuit_of": "program"},
    "reached": {"reached": "program", "row_to": "program number"},
    "sureness": {"sure_paper": "program", "is_sure_paper": "program thing"},
    "machines": {"is_machine": "thing", "machine_of": "program", "run_machine": "machine row",
                 "parted": "machine one other", "least": "machine"},
    "alike": {"alike": "one other", "is_alike_paper": "one other thing"},
    "watching": {"never": "program signal", "comes": "program signal", "is_coming": "program signal thing"},
    "steering": {"steering": "program own word signal", "is_steering": "program own word signal thing",
                 "steered": "program own word signal"},
    "written": {"program_of": "machine inputs outputs"},
    "unringed": {"rings_of": "circuit", "unringed": "circuit"},
    "lines": {"read_along": "circuit line given held", "line_settles": "circuit line cases", "line_for": "circuit cases",
              "set_along": "circuit line given held start", "wrong_start": "circuit line cases"},
    "fewest": {"standing_behind": "circuit line cases", "fewest_line": "circuit cases",
               "is_fewest": "circuit cases line paper"},
    "straight": {"is_straight": "thing", "run_straight": "code start rows", "code_of": "program"},
    "diagrams": {"diagram_of": "circuit order", "is_reduced": "circuit order thing",
                 "end_at": "circuit order diagram given held", "parted_at": "one other"},
    "writing": {"rest_text": "rest", "program_text": "program", "circuit_text": "circuit"},
    "reading": {"read_rest": "text", "read_program": "text", "read_circuit": "text"},
    "joined": {"joined_circuit": "frame part", "opened": "part held given", "settled": "part held given",
               "pairing": "one other", "is_pairing": "one other thing", "parting": "one other"},
    "pieces": {"is_piece": "thing", "piece_reading": "signals standing run given",
               "piece_settled": "signals standing given", "pieces_pairing": "one other",
               "is_pieces_pairing": "one other thing", "is_surroundings": "thing", "put_in": "surroundings body",
               "classes": "piece"},
    "partings": {"pieces_parting": "one other"},
}
WORKSHOP = {"put": "m inputs outputs body", "drop": "m", "undo": "", "redo": "", "modules": "", "missing": "",
            "program": "m", "look": "m", "standing": "", "looks": ""}

BUILTINS = set("""len range enumerate zip min max sum abs sorted reversed int str bool list tuple dict set isinstance ord
repr any all divmod super ValueError""".split())
METHODS = set("append clear copy count endswith extend find get index insert items join keys pop remove replace reverse "
              "setdefault startswith update upper values bit_length".split()) | {"add", "discard"}
BARRED = set("""mro elements open input law version_info with_traceback add_note register attrgetter breakpoint builtins
compile copyright credits delattr dir eval exec exit gc getattr globals hasattr help id importlib license locals
methodcaller os quit setattr type vars sys iter next map filter hash round object print format""".split())
WORDS = """typing typing_extensions enum Enum IntEnum StrEnum Flag IntFlag Generic Protocol ABC ABCMeta namedtuple
NamedTuple TypedDict TYPE_CHECKING abstractmethod type dataclass overload contextmanager _wall _WallAttr""".split()
STATEMENTS = (ast.Assign, ast.AugAssign, ast.If, ast.While, ast.For, ast.Return, ast.Break, ast.Continue, ast.Pass,
              ast.Raise, ast.Expr, ast.FunctionDef, ast.ClassDef, ast.ImportFrom)


def files():
    return sorted(FOLDER.glob("*.py"))


def trees():
    for path in files():
        yield path, ast.parse(path.read_text(encoding="utf-8"))


def bound_names(tree):
    """All names that the file gives to anything."""
    for node in ast.walk(tree):
        if isinstance(node, ast.Name) and isinstance(node.ctx, ast.Store):
            yield node.id
        elif isinstance(node, (ast.FunctionDef, ast.ClassDef)):
            yield node.name
        elif isinstance(node, ast.arg):
            yield node.arg
        elif isinstance(node, ast.Attribute) and isinstance(node.ctx, ast.Store):
            yield node.attr


class Interface(unittest.TestCase):
    def test_names_and_parameters(self):
        for module, functions in INTERFACE.items():
            there = importlib.import_module("restsure." + module)
            for name, parameters in functions.items():
                function = getattr(there, name)
                self.assertEqual(function.__module__, "restsure." + module)
                told = inspect.signature(function).parameters.values()
                self.assertEqual([row.name for row in told], parameters.split(), name)
                self.assertTrue(all(row.default is row.empty and row.kind is row.POSITIONAL_OR_KEYWORD for row in told))

    def test_functions_are_defined_in_their_files(self):
        for module, functions in INTERFACE.items():
            tree = ast.parse((FOLDER / (module + ".py")).read_text(encoding="utf-8"))
            made = [node.name for node in tree.body if isinstance(node, ast.FunctionDef)]
            self.assertLessEqual(set(functions), set(made))

    def test_the_workshop_has_its_methods_itself(self):
        there = importlib.import_module("restsure.workshop")
        tree = ast.parse((FOLDER / "workshop.py").read_text(encoding="utf-8"))
        rows = [node for node in tree.body if isinstance(node, ast.ClassDef) and node.name == "Workshop"]
        made = [node.name for node in rows[0].body if isinstance(node, ast.FunctionDef)]
        self.assertLessEqual(set(WORKSHOP), set(made))
        self.assertEqual(list(inspect.signature(there.Workshop).parameters), [])
        for name, parameters in WORKSHOP.items():
            told = inspect.signature(getattr(there.Workshop(), name)).parameters.values()
            self.assertEqual([row.name for row in told], parameters.split(), name)
            self.assertTrue(all(row.default is row.empty and row.kind is row.POSITIONAL_OR_KEYWORD for row in told))

    def test_the_package_defines_nothing(self):
        self.assertEqual((FOLDER / "__init__.py").read_text(), "")

    def test_the_folder_holds_the_modules_alone(self):
        names = sorted(path.name for path in FOLDER.iterdir() if path.name != "__pycache__")
        self.assertEqual(names, sorted(["__init__.py"] + [name + ".py" for name in ORDER]))

    def test_imports_lead_back_only(self):
        for path, tree in trees():
            for node in ast.walk(tree):
                if not isinstance(node, (ast.ImportFrom, ast.Import)):
                    continue
                self.assertIsInstance(node, ast.ImportFrom)
                package, module = node.module.split(".")
                self.assertEqual((package, node.level), ("restsure", 0))
                self.assertLess(ORDER.index(module), ORDER.index(path.stem), path.name)
                there = ast.parse((FOLDER / (module + ".py")).read_text(encoding="utf-8"))
                made = [row.name for row in there.body if isinstance(row, (ast.FunctionDef, ast.ClassDef))]
                made += [row.targets[0].id for row in there.body if isinstance(row, ast.Assign)]
                for alias in node.names:
                    self.assertIn(alias.name, made)
                    self.assertIsNone(alias.asname)


class PlainPython(unittest.TestCase):
    def test_sizes_and_characters(self):
        for path in files():
            text = path.read_bytes()
            self.assertTrue(all(byte == 10 or 32 <= byte <= 126 for byte in text), path.name)
            lines = text.decode().splitlines()
            self.assertLessEqual(len(lines), 399, path.name)
            for line in lines:
                self.assertLessEqual(len(line), 120, path.name + ": " + line)

    def test_functions_are_short(self):
        for path, tree in trees():
            for node in ast.walk(tree):
                if isinstance(node, ast.FunctionDef):
                    self.assertLessEqual(node.end_lineno - node.lineno + 1, 40, path.name + ": " + node.name)
                    self.assertEqual(node.decorator_list, [])

    def test_statements_and_expressions(self):
        barred = (ast.Global, ast.Nonlocal, ast.AsyncFunctionDef, ast.Await, ast.Yield, ast.YieldFrom, ast.Try, ast.With,
                  ast.Lambda, ast.Starred, ast.NamedExpr, ast.AnnAssign, ast.Delete, ast.Assert, ast.Match, ast.JoinedStr)
        for path, tree in trees():
            for node in ast.walk(tree):
                self.assertNotIsInstance(node, barred, path.name)
                if isinstance(node, ast.stmt):
                    self.assertIsInstance(node, STATEMENTS, path.name)
                if isinstance(node, (ast.BinOp, ast.AugAssign)):
                    self.assertNotIsInstance(node.op, (ast.Div, ast.Pow, ast.MatMult), path.name)
                if isinstance(node, ast.Constant):
                    self.assertIn(type(node.value), (int, str, bool, type(None)), path.name)
                if isinstance(node, ast.Constant) and isinstance(node.value, str):
                    self.assertNotIn("%", node.value)
                    self.assertNotIn("__", node.value)
                if isinstance(node, ast.Compare):
                    for op, other in zip(node.ops, node.comparators):
                        if isinstance(op, (ast.Is, ast.IsNot)):
                            self.assertIn(getattr(other, "value", "no"), (None, True, False))
                if isinstance(node, ast.Raise):
                    self.assertIsInstance(node.exc, ast.Call)

    def test_module_level(self):
        for path, tree in trees():
            for at, node in enumerate(tree.body):
                if isinstance(node, ast.Expr):
                    self.assertEqual(at, 0, path.name)
                    continue
                self.assertIsInstance(node, (ast.ImportFrom, ast.FunctionDef, ast.ClassDef, ast.Assign), path.name)
                if isinstance(node, ast.Assign):
                    ast.literal_eval(node.value)

    def test_names(self):
        for path, tree in trees():
            imports = {alias.name for node in tree.body if isinstance(node, ast.ImportFrom) for alias in node.names}
            classes = {node.name for node in tree.body if isinstance(node, ast.ClassDef)}
            top = [node.name for node in tree.body if isinstance(node, (ast.FunctionDef, ast.ClassDef))] + list(imports)
            self.assertEqual(len(top), len(set(top)), path.name)
            for name in bound_names(tree):
                self.assertNotIn(name, BARRED | BUILTINS, path.name)
                self.assertNotIn(name, imports, path.name)
                self.assertTrue(name == "__init__" or not name.startswith("__"), name)
            for node in ast.walk(tree):
                if isinstance(node, ast.Name) and isinstance(node.ctx, ast.Store):
                    self.assertNotIn(node.id, classes, path.name)

    def test_names_are_used(self):
        for path, tree in trees():
            used = {node.id for node in ast.walk(tree) if isinstance(node, ast.Name) and isinstance(node.ctx, ast.Load)}
            for node in tree.body:
                if isinstance(node, ast.ImportFrom):
                    self.assertLessEqual({alias.name for alias in node.names}, used, path.name)
            self.assertNotIn("_", used)

    def test_words(self):
        for path in files():
            with path.open("rb") as opened:
                for token in tokenize.tokenize(opened.readline):
                    if token.type == tokenize.NAME:
                        self.assertNotIn(token.string, WORDS, path.name)
                        for word in ("dataclass", "overload", "contextmanager"):
                            self.assertNotIn(word, token.string)

    def test_calls(self):
        made = set()
        for _, tree in trees():
            made |= {node.name for node in ast.walk(tree) if isinstance(node, (ast.FunctionDef, ast.ClassDef))}
        for path, tree in trees():
            for node in ast.walk(tree):
                if not isinstance(node, ast.Call):
                    continue
                if isinstance(node.func, ast.Name):
                    self.assertIn(node.func.id, made | BUILTINS, path.name)
                else:
                    self.assertIsInstance(node.func, ast.Attribute)
                    self.assertIn(node.func.attr, made | METHODS | {"__init__"}, path.name)
                for keyword in node.keywords:
                    self.assertIn(keyword.arg, ("start", "default"), path.name)

    def test_what_is_iterated_at_once(self):
        # range, zip and their kind are neither kept nor passed on.
        takers = {"list", "tuple", "dict", "sorted", "sum", "min", "max", "any", "all", "enumerate", "zip"}
        for path, tree in trees():
            good = set()
            for node in ast.walk(tree):
                if isinstance(node, (ast.For, ast.comprehension)):
                    good.add(id(node.iter))
                if isinstance(node, ast.Call) and isinstance(node.func, ast.Name):
                    if node.func.id in takers:
                        good |= {id(item) for item in node.args}
                    if node.func.id == "reversed" and getattr(getattr(node.args[0], "func", None), "id", "") == "range":
                        good.add(id(node.args[0]))
            for node in ast.walk(tree):
                if isinstance(node, ast.Call):
                    name = getattr(node.func, "id", getattr(node.func, "attr", ""))
                    if name in ("range", "zip", "enumerate", "reversed", "items", "keys", "values"):
                        self.assertIn(id(node), good, path.name + " " + str(node.lineno))

    def test_sets_stand_where_they_may(self):
        for path, tree in trees():
            good = set()
            for node in ast.walk(tree):
                if isinstance(node, ast.Call) and getattr(node.func, "id", "") in ("sorted", "len"):
                    good |= {id(item) for item in node.args}
                if isinstance(node, ast.Assign) and isinstance(node.targets[0], ast.Name):
                    good.add(id(node.value))
            for node in ast.walk(tree):
                if isinstance(node, (ast.SetComp, ast.Set)) or getattr(getattr(node, "func", None), "id", "") == "set":
                    self.assertIn(id(node), good, path.name)


if __name__ == "__main__":
    unittest.main()
