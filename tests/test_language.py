"""The form of the code, and that the interface stands where it has to."""

import ast
import importlib
import inspect
import os
import unittest

FOLDER = os.path.join(os.path.dirname(os.path.dirname(os.path.abspath(__file__))), "cellcloth")

INTERFACE = {
    "errors": ("ClothError", "TextError", "BitsError", "KindError", "FitError", "LimitError", "LoopError"),
    "words": ("calculate", "result_width", "arguments_of"),
    "amounts": ("amount",),
    "layout": ("laid_out", "Place", "Thing"),
    "parsing": ("parse",),
    "writing": ("written",),
    "kinds": ("check_kinds", "width_of"),
    "elaborate": ("flat",),
    "meaning": ("start", "step", "run"),
    "walk": ("Walk",),
    "states": ("moore_run", "least", "least_right", "circuit_of"),
    "nets": ("check", "values", "valued", "step", "run", "levels", "depth", "needed"),
    "gates": ("blast", "bits_in", "words_out", "Builder"),
    "solver": ("solve", "proof_right", "net_clauses", "integer_of"),
    "sweep": ("tidied", "swept", "swept_right"),
    "retime": ("origin", "period", "moved", "retimed", "retimed_right"),
    "cover": ("covered", "cut_bits", "covered_right"),
    "cells": ("check_cells", "step_cells", "run_cells", "packed"),
    "fabric": ("opposite", "beside", "borders", "empty", "check"),
    "bits": ("bits_of", "config_of", "sum_of", "size_of"),
    "device": ("start", "step", "run"),
    "assign": ("assigned", "assign_right"),
    "place": ("length", "placed", "plan_right"),
    "route": ("used", "tree", "clauses_of", "routed", "routed_right"),
    "times": ("times", "times_right"),
    "reader": ("net_of", "remarks", "trimmed"),
    "judge": ("judge", "judge_right"),
    "change": ("changed_places", "undisturbed", "undisturbed_right", "switched", "changed_run"),
    "road": ("agree", "road", "shown"),
    "audit": ("audit",),
    "desk": ("Desk", "session"),
    "stuck": ("faults", "answer", "fault_clauses", "told", "told_right", "tests", "agreeing"),
}

BUILTINS = (
    "len range enumerate zip min max sum abs sorted reversed int str bool list tuple dict set frozenset isinstance ord "
    "repr any all divmod pow Exception ValueError TypeError KeyError IndexError LookupError").split()

METHODS = (
    "append clear copy count endswith extend find get index insert isalnum isalpha isdigit islower isspace isupper "
    "items join keys ljust lower lstrip partition pop remove replace reverse rfind rjust rpartition rsplit rstrip "
    "setdefault split splitlines startswith strip update upper values zfill bit_length").split()

BARRED_WORDS = (
    "type typing typing_extensions enum Enum dataclass namedtuple ABC Generic Protocol mro elements open input law "
    "register getattr hasattr setattr vars eval exec compile globals locals dir super object print").split()

BARRED_STARTS = ("__", "_wall", "_pe_", "_dcw_", "_enum_", "_cm_", "_twin_re_", "_lay_", "_law_", "_stub_", "_sre")

BARRED_NODES = (
    ast.AsyncFunctionDef, ast.Await, ast.Global, ast.Nonlocal, ast.Lambda, ast.Div, ast.Import,
    ast.With, ast.Yield, ast.YieldFrom, ast.Match, ast.NamedExpr, ast.GeneratorExp, ast.AnnAssign, ast.Set,
    ast.SetComp)


def files():
    return sorted(name for name in os.listdir(FOLDER) if name != "__pycache__")


def source(name):
    with open(os.path.join(FOLDER, name), encoding="utf-8", newline="") as file:
        return file.read()


class LanguageTest(unittest.TestCase):
    def each(self):
        for name in files():
            text = source(name)
            yield name, text, ast.parse(text)

    def test_files(self):
        for name in files():
            self.assertRegex(name, r"^[a-z_0-9]+\.py$")

    def test_characters_and_sizes(self):
        for name, text, tree in self.each():
            lines = text.split("\n")
            self.assertLessEqual(len(lines) - 1, 399, name)
            for line in lines:
                self.assertLessEqual(len(line), 120, name)
                self.assertTrue(all(" " <= sign <= "~" for sign in line), name)
            for node in ast.walk(tree):
                if isinstance(node, ast.FunctionDef):
                    self.assertLessEqual(node.end_lineno - node.lineno + 1, 40, node.name)

    def test_module_level(self):
        for name, _, tree in self.each():
            for at, node in enumerate(tree.body):
                if at == 0:
                    self.assertTrue(isinstance(node, ast.Expr) and isinstance(node.value, ast.Constant), name)
                    continue
                self.assertIsInstance(node, (ast.ImportFrom, ast.FunctionDef, ast.ClassDef, ast.Assign), name)
                if isinstance(node, ast.Assign):
                    self.assertIsInstance(node.targets[0], ast.Name, name)

    def test_one_binding_for_each_name(self):
        for name, _, tree in self.each():
            bound = []
            for node in tree.body[1:]:
                if isinstance(node, ast.ImportFrom):
                    bound.extend(alias.name for alias in node.names)
                elif isinstance(node, ast.Assign):
                    bound.append(node.targets[0].id)
                else:
                    bound.append(node.name)
            self.assertEqual(len(bound), len(set(bound)), name)
            imports = {alias.name for node in tree.body if isinstance(node, ast.ImportFrom) for alias in node.names}
            classes = {node.name for node in tree.body if isinstance(node, ast.ClassDef)}
            for node in ast.walk(tree):
                if isinstance(node, ast.arg) or isinstance(node, ast.Name) and isinstance(node.ctx, ast.Store):
                    word = node.arg if isinstance(node, ast.arg) else node.id
                    self.assertNotIn(word, imports | classes, name)
                    self.assertFalse(hasattr(__builtins__, word) if not isinstance(__builtins__, dict)
                                     else word in __builtins__, (name, word))

    def test_imports(self):
        uses = {}
        for name, text, tree in self.each():
            uses[name[:-3]] = []
            for node in tree.body:
                if isinstance(node, ast.ImportFrom):
                    self.assertEqual((node.level, node.module.split(".")[0]), (0, "cellcloth"), name)
                    other = node.module.split(".")[1]
                    uses[name[:-3]].append(other)
                    for alias in node.names:
                        self.assertIsNone(alias.asname)
                        made = getattr(importlib.import_module(node.module), alias.name)
                        self.assertEqual(getattr(made, "__module__", node.module), node.module)
                        self.assertGreater(text.count(alias.name), 1, (name, alias.name))
        while uses:
            free = [name for name in uses if not any(other in uses for other in uses[name])]
            self.assertTrue(free, "files import from each other")
            for name in free:
                del uses[name]

    def test_nodes(self):
        for name, _, tree in self.each():
            for node in ast.walk(tree):
                self.assertNotIsInstance(node, BARRED_NODES, (name, getattr(node, "lineno", 0)))
                if isinstance(node, (ast.FunctionDef, ast.ClassDef)):
                    self.assertEqual(node.decorator_list, [])
                    self.assertTrue(ast.get_docstring(node) or node.name.startswith("_") or len(node.body) <= 12)
                if isinstance(node, ast.BinOp) and isinstance(node.op, ast.Pow):
                    self.assertIsInstance(node.right, ast.Constant)
                if isinstance(node, ast.Compare):
                    for op, right in zip(node.ops, node.comparators):
                        if isinstance(op, (ast.Is, ast.IsNot)):
                            self.assertTrue(isinstance(right, ast.Constant) and right.value in (None, True, False))
                if isinstance(node, ast.Constant):
                    self.assertNotIsInstance(node.value, (float, complex, bytes))

    def test_only_own_errors_are_caught(self):
        for name, _, tree in self.each():
            for node in ast.walk(tree):
                if isinstance(node, ast.Try):
                    self.assertEqual((node.orelse, node.finalbody), ([], []), name)
                    names = [handler.name for handler in node.handlers if handler.name]
                    self.assertEqual(len(set(names)), len(names), name)
                    for handler in node.handlers:
                        self.assertIn(handler.type.id, INTERFACE["errors"], name)

    def test_no_star_in_an_index(self):
        for name, _, tree in self.each():
            self.assertEqual(stars_in_indexes(tree), [], name)
        for text in ("rows[*told]", "rows[1, *told]", "rows[('wire', *told)]", "rows[0][(1, (2, *told))]",
                     "rows[(*told,)] = 1", "del rows[[*told][0]]"):
            self.assertEqual(len(stars_in_indexes(ast.parse(text))), 1, text)
        for text in ("key = ('wire', *told)\nrows[key]", "[*rows[0], 1]", "told(*rows[1])"):
            self.assertEqual(stars_in_indexes(ast.parse(text)), [], text)

    def test_names(self):
        for name, _, tree in self.each():
            for node in ast.walk(tree):
                for word in names_of(node):
                    self.assertNotIn(word, BARRED_WORDS, name)
                    if word != "__init__":
                        self.assertFalse(word.startswith(BARRED_STARTS), (name, word))

    def test_strings(self):
        for name, _, tree in self.each():
            for node in ast.walk(tree):
                if isinstance(node, ast.Constant) and isinstance(node.value, str):
                    self.assertNotIn("%", node.value, name)

    def test_calls(self):
        methods = {node.name for _, _, tree in self.each() for node in ast.walk(tree)
                   if isinstance(node, ast.FunctionDef)}
        for name, _, tree in self.each():
            own = {node.name for node in ast.walk(tree) if isinstance(node, (ast.FunctionDef, ast.ClassDef))}
            own |= {alias.name for node in tree.body if isinstance(node, ast.ImportFrom) for alias in node.names}
            own |= {"one", "read", "write", "act", "look"}
            for node in ast.walk(tree):
                if isinstance(node, ast.Call) and isinstance(node.func, ast.Name):
                    self.assertIn(node.func.id, own | set(BUILTINS), name)
                elif isinstance(node, ast.Call):
                    self.assertIsInstance(node.func, ast.Attribute, name)
                    self.assertIn(node.func.attr, methods | set(METHODS), name)

    def test_tables_of_a_module_are_only_read(self):
        for name, _, tree in self.each():
            tables = {node.targets[0].id for node in tree.body
                      if isinstance(node, ast.Assign) and isinstance(node.value, (ast.Dict, ast.List))}
            allowed = set()
            for node in ast.walk(tree):
                if isinstance(node, ast.Subscript) and isinstance(node.ctx, ast.Load):
                    allowed.add(id(node.value))
                if isinstance(node, ast.Compare):
                    allowed.update(id(right) for right in node.comparators)
                if isinstance(node, ast.Attribute) and node.attr == "get":
                    allowed.add(id(node.value))
            for node in ast.walk(tree):
                if isinstance(node, ast.Name) and isinstance(node.ctx, ast.Load) and node.id in tables:
                    self.assertIn(id(node), allowed, (name, node.id))


def stars_in_indexes(tree):
    """The rows of all stars that stand in the brackets of an index."""
    found = {}
    for node in ast.walk(tree):
        if isinstance(node, ast.Subscript):
            found.update({id(part): part.lineno for part in ast.walk(node.slice) if isinstance(part, ast.Starred)})
    return sorted(found.values())


def names_of(node):
    if isinstance(node, ast.Name):
        return [node.id]
    if isinstance(node, (ast.FunctionDef, ast.ClassDef)):
        return [node.name]
    if isinstance(node, ast.arg):
        return [node.arg]
    if isinstance(node, ast.Attribute):
        return [node.attr]
    return []


class InterfaceTest(unittest.TestCase):
    def test_all_stands_in_its_file(self):
        for file, names in INTERFACE.items():
            module = importlib.import_module("cellcloth." + file)
            for name in names:
                made = getattr(module, name)
                self.assertTrue(inspect.isclass(made) or inspect.isfunction(made))
                self.assertEqual(made.__module__, "cellcloth." + file)

    def test_signs(self):
        self.assertIs(type(importlib.import_module("cellcloth.words").SIGNS), tuple)

    def test_methods_stand_in_the_class(self):
        for file, made, names in (("walk", "Walk", ("cycle", "state_of")), ("gates", "Builder", ("both", "net")),
                                  ("desk", "Desk", ("command",))):
            module = importlib.import_module("cellcloth." + file)
            for name in names:
                self.assertIn(name, vars(getattr(module, made)))

    def test_no_name_is_a_method_and_an_attribute(self):
        methods, attributes = set(), set()
        for name in files():
            for made in ast.walk(ast.parse(source(name))):
                if isinstance(made, ast.ClassDef):
                    methods |= {row.name for row in made.body if isinstance(row, ast.FunctionDef)}
                    attributes |= {node.attr for node in ast.walk(made)
                                   if isinstance(node, ast.Attribute) and isinstance(node.ctx, ast.Store)}
        self.assertEqual(methods & attributes, set())


if __name__ == "__main__":
    unittest.main()
