"""The form of the code: what of LANGUAGE.md is seen without reading it all, and the interface."""

import ast
import builtins
import importlib
import inspect
import os
import unittest

HERE = os.path.dirname(os.path.abspath(__file__))
PACKAGE = os.path.join(os.path.dirname(HERE), "leanround")
LIBRARY = ("heapq", "math", "itertools", "collections")
INTERFACE = {
    "errors": {
        "LeanError": None, "NoBook": ["word", "name"], "NoStep": ["at"], "TooMany": ["most"],
        "Loose": ["ring"], "TooLong": ["most"], "NoJoin": None, "NoPlain": ["at"],
        "BadText": ["row"], "NoRow": None, "Unknown": ["name"], "NoNode": ["at"]},
    "terms": {
        "is_name": ["text"], "parts": ["term"], "deep": ["term"], "size": ["thing"],
        "names_in": ["terms"], "under": ["term", "pairs"]},
    "fitting": {"matched": ["terms", "others"], "fitted": ["terms", "others"]},
    "books": {"look_book": ["book"], "rules_of": ["book", "name"]},
    "whys": {
        "holds": ["book", "atom"], "why_of": ["book", "atom"], "is_why": ["book", "why", "atom"],
        "rules_in": ["why"], "why_deep": ["why"]},
    "claims": {
        "names_of": ["claim"], "claim_under": ["claim", "pairs"], "alike": ["one", "other"]},
    "against": {
        "against": ["book", "claim", "most"], "in_order": ["book", "one", "other"],
        "speaks_against": ["book", "claim", "things"]},
    "steps": {
        "goals_of": ["step"], "claims_due": ["book", "claim", "step", "goal_claim"]},
    "papers": {"stands": ["book", "paper", "n"], "paper_stands": ["book", "paper"]},
    "ties": {"Ties": ["arcs"], "ties_of": ["book", "node"]},
    "rings": {
        "look": ["book", "paper", "most"], "way_ties": ["book", "paper", "way"],
        "closed": ["book", "paper", "most"]},
    "unrolling": {
        "Unrolling": ["book", "paper", "things", "whys"],
        "unrolled": ["book", "paper", "things", "whys", "most"]},
    "bare": {"bare": ["paper"], "run_bare": ["rows", "whys", "most"]},
    "made": {
        "filled": ["paper", "pairs"], "joined": ["one", "other"],
        "once_more": ["paper", "n", "k"]},
    "gathered": {"gathered": ["paper"], "trimmed": ["paper"]},
    "plain": {"look_plain": ["book", "paper"], "leaning": ["paper"]},
    "writer": {
        "term_text": ["term"], "claim_text": ["claim"], "book_text": ["book"],
        "paper_text": ["paper"]},
    "reader": {
        "read_term": ["text"], "read_claim": ["text"], "read_book": ["text"],
        "read_paper": ["text"]},
    "desk": {"Desk": []},
}
DEFAULTS = {
    ("against", "against"): {"most": 4}, ("steps", "claims_due"): {"goal_claim": None},
    ("rings", "look"): {"most": 2000}, ("rings", "closed"): {"most": 2000},
    ("unrolling", "unrolled"): {"most": 5000}, ("bare", "run_bare"): {"most": 5000},
}
METHODS = {
    ("ties", "Ties"): {
        "arcs": [], "laid": ["other"], "itself": [], "falls_on": [], "__eq__": ["other"],
        "__len__": [], "__str__": []},
    ("unrolling", "Unrolling"): {
        "__init__": ["book", "paper", "things", "whys"], "turn": [], "stand": [], "outcome": [],
        "__len__": []},
    ("desk", "Desk"): {"__init__": [], "say": ["row"]},
}
BUILTINS = (
    "len range enumerate zip min max sum abs sorted reversed int str bool bytes list tuple dict "
    "set frozenset isinstance ord repr any all divmod pow iter next map ValueError TypeError "
    "KeyError IndexError LookupError NotImplemented").split()
VALUE_METHODS = (
    "append clear copy count endswith extend find get index insert isalnum isalpha isdigit "
    "islower isspace isupper items join keys ljust lower lstrip partition pop remove replace "
    "reverse rfind rjust rpartition rsplit rstrip setdefault split splitlines startswith strip "
    "update upper values zfill bit_length").split()
NEVER = ("register mro elements open input law version_info with_traceback add_note attrgetter "
         "breakpoint builtins compile copyright credits delattr dir eval exec exit gc getattr "
         "globals hasattr help id importlib license locals methodcaller os quit setattr super "
         "type vars sys").split()
SPOKEN_NEVER = ("type", "typing", "enum", "Enum", "dataclass", "overload", "contextmanager",
                "namedtuple", "_wall", "_WallAttr")


def trees():
    return [(name, ast.parse(text_of(name))) for name in files()]


def bound_names(tree):
    """All names that a function binds: its parameters, and what it assigns."""
    names = [node.arg for node in ast.walk(tree) if isinstance(node, ast.arg)]
    return names + [node.id for node in ast.walk(tree)
                    if isinstance(node, ast.Name) and isinstance(node.ctx, ast.Store)]


def own_names(tree):
    """What is bound at a file's module level: imports, functions, classes and values."""
    names = []
    for node in tree.body:
        if isinstance(node, ast.ImportFrom):
            names.extend([told.name for told in node.names])
        elif isinstance(node, (ast.FunctionDef, ast.ClassDef)):
            names.append(node.name)
        elif isinstance(node, ast.Assign):
            names.extend([target.id for target in node.targets])
    return names


def taken_from_tables(tree):
    """Local names for what stands in a table of functions at module level."""
    return [node.targets[0].id for node in ast.walk(tree)
            if isinstance(node, ast.Assign) and isinstance(node.value, ast.Subscript)
            and isinstance(node.value.value, ast.Name) and node.value.value.id.isupper()]


def files():
    return sorted(name for name in os.listdir(PACKAGE) if name != "__pycache__")


def text_of(name):
    with open(os.path.join(PACKAGE, name), encoding="utf-8") as file:
        return file.read()


class Form(unittest.TestCase):
    def test_files(self):
        for name in files():
            self.assertRegex(name, r"^[a-z0-9_]+\.py$")
        self.assertIn("__init__.py", files())

    def test_signs_and_lengths(self):
        for name in files():
            text = text_of(name)
            self.assertTrue(all(sign == "\n" or " " <= sign <= "~" for sign in text), name)
            self.assertTrue(text.endswith("\n"), name)
            rows = text.split("\n")
            self.assertLessEqual(len(rows), 400, name)
            self.assertLessEqual(max(len(row) for row in rows), 120, name)

    def test_functions_are_short(self):
        for name in files():
            for node in ast.walk(ast.parse(text_of(name))):
                if isinstance(node, ast.FunctionDef):
                    many = node.end_lineno - node.lineno + 1
                    self.assertLessEqual(many, 40, f"{name}: {node.name}")

    def test_imports(self):
        for name in files():
            tree = ast.parse(text_of(name))
            for node in ast.walk(tree):
                self.assertNotIsInstance(node, ast.Import, name)
                if isinstance(node, ast.ImportFrom):
                    self.assertIn(node, tree.body, name)
                    self.assertEqual(node.level, 0, name)
                    self.assertNotIn("*", [told.name for told in node.names])
                    front = node.module.split(".")[0]
                    self.assertIn(front, ("leanround", *LIBRARY), name)

    def test_texts(self):
        for name in files():
            for node in ast.walk(ast.parse(text_of(name))):
                if isinstance(node, ast.Constant):
                    self.assertNotIsInstance(node.value, (float, complex), name)
                    if isinstance(node.value, str):
                        self.assertNotIn(chr(37), node.value, name)

    def test_one_binding_each(self):
        for name, tree in trees():
            names = own_names(tree)
            self.assertEqual(len(names), len(set(names)), name)

    def test_names(self):
        for name, tree in trees():
            taken = [told for node in tree.body if isinstance(node, ast.ImportFrom)
                     for told in [part.name for part in node.names]]
            taken += [node.name for node in tree.body if isinstance(node, ast.ClassDef)]
            bound = bound_names(tree)
            for told in bound:
                self.assertNotIn(told, taken, name)
            for told in bound + own_names(tree):
                self.assertFalse(hasattr(builtins, told), f"{name}: {told}")
                self.assertNotIn(told, NEVER, name)
                self.assertRegex(told, "^(_|_?[A-Za-z][A-Za-z0-9_]*)$")

    def test_calls(self):
        methods = [node.name for _, tree in trees() for parent in ast.walk(tree)
                   if isinstance(parent, ast.ClassDef) for node in parent.body
                   if isinstance(node, ast.FunctionDef)]
        for name, tree in trees():
            own = own_names(tree) + taken_from_tables(tree)
            for node in ast.walk(tree):
                if isinstance(node, ast.Call) and isinstance(node.func, ast.Name):
                    self.assertIn(node.func.id, [*own, *BUILTINS], name)
                elif isinstance(node, ast.Call):
                    self.assertIsInstance(node.func, ast.Attribute, name)
                    self.assertIn(node.func.attr, [*methods, *VALUE_METHODS], name)

    def test_kinds_of_code(self):
        barred = (ast.GeneratorExp, ast.Yield, ast.YieldFrom, ast.Global, ast.Set, ast.Div,
                  ast.AsyncFunctionDef, ast.Await, ast.Lambda)
        for name, tree in trees():
            for node in ast.walk(tree):
                self.assertNotIsInstance(node, barred, name)
                if isinstance(node, (ast.FunctionDef, ast.ClassDef)):
                    self.assertEqual(node.decorator_list, [], name)
                if isinstance(node, ast.Compare):
                    for sign, told in zip(node.ops, node.comparators):
                        if isinstance(sign, (ast.Is, ast.IsNot)):
                            self.assertIsInstance(told, ast.Constant, name)

    def test_errors_caught(self):
        """Own ones alone, by name, around a call; no name is given to two of a function."""
        for name, tree in trees():
            own = [told.name for node in tree.body if isinstance(node, ast.ImportFrom)
                   and node.module == "leanround.errors" for told in node.names]
            for function in ast.walk(tree):
                if isinstance(function, ast.FunctionDef):
                    given = [node.name for node in ast.walk(function)
                             if isinstance(node, ast.ExceptHandler) and node.name]
                    self.assertEqual(len(given), len(set(given)), name)
                    for told in given:
                        self.assertNotIn(told, bound_names(function), name)
            for node in ast.walk(tree):
                if isinstance(node, ast.Try):
                    self.assertEqual((len(node.body), node.finalbody), (1, []), name)
                if isinstance(node, ast.ExceptHandler):
                    self.assertIsInstance(node.type, ast.Name, name)
                    self.assertIn(node.type.id, own, name)

    def test_len(self):
        """What __len__ tells is a len."""
        for name, tree in trees():
            for node in ast.walk(tree):
                if isinstance(node, ast.FunctionDef) and node.name == "__len__":
                    for told in ast.walk(node):
                        if isinstance(told, ast.Return):
                            self.assertEqual(told.value.func.id, "len", name)

    def test_words(self):
        for name in files():
            for word in SPOKEN_NEVER:
                self.assertNotRegex(text_of(name), rf"\b{word}\b", name)

    def test_no_file_imports_itself(self):
        reached = {}
        for name, tree in trees():
            reached[name[:-3]] = {node.module.split(".")[1] for node in tree.body
                                  if isinstance(node, ast.ImportFrom)
                                  and node.module.startswith("leanround.")}
        for _ in reached:
            for name, others in reached.items():
                reached[name] = others.union(*[reached[other] for other in others])
        for name, others in reached.items():
            self.assertNotIn(name, others)

    def test_interface(self):
        for file, names in INTERFACE.items():
            module = importlib.import_module("leanround." + file)
            for name, fields in names.items():
                told = getattr(module, name)
                self.assertEqual(told.__module__, "leanround." + file)
                if fields is not None:
                    given = inspect.signature(told).parameters
                    self.assertEqual(list(given), fields, name)
                    defaults = {field: worth.default for field, worth in given.items()
                                if worth.default is not worth.empty}
                    self.assertEqual(defaults, DEFAULTS.get((file, name), {}), name)

    def test_methods(self):
        for (file, name), methods in METHODS.items():
            told = getattr(importlib.import_module("leanround." + file), name)
            for method, fields in methods.items():
                self.assertIn(method, vars(told))
                given = inspect.signature(vars(told)[method]).parameters
                self.assertEqual(list(given), ["self", *fields])


if __name__ == "__main__":
    unittest.main()
