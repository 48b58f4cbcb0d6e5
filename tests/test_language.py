"""Some rules of LANGUAGE.md that a short look at the files can check, and the names that the interface lists."""

import ast
import builtins
import importlib
import inspect
import re
import unittest
from pathlib import Path

FOLDER = Path(__file__).resolve().parent.parent / "stepswithin"
LET_BUILTINS = set(
    "len range enumerate zip min max sum abs sorted reversed int str bool list tuple dict set isinstance any all "
    "divmod iter ValueError".split()
)
BARRED_WORDS = re.compile(
    r"\b(type|typing|enum|Enum|Generic|Protocol|ABC|namedtuple|register|mro|elements|open|input|law|eval|exec)\b"
)
INTERFACE = {
    "steps": {
        "need_number": "value", "need_step": "value", "need_row": "value", "degree_of": "step", "head_of": "step",
        "is_plain": "step", "value_at": "step number", "plained": "step", "straight_back": "step", "in_order": "steps",
    },
    "doing": {"row_degree": "row", "whole": "row", "numbers_along": "row start", "again": "step times"},
    "parting": {
        "candidate": "step degree", "in_powers": "step base", "first_part": "step degree", "last_part": "step first",
        "is_first_part": "step first", "first_break": "step degree", "is_break": "step degree value",
    },
    "parts": {
        "first_degrees": "step", "first_parts": "step", "meeting": "step one other", "joining": "step one other",
        "covers": "step", "common_first": "one other", "are_apart": "one other",
    },
    "fullrows": {
        "is_unparted": "step", "full_rows": "step", "how_many_rows": "step", "plain_row": "row", "exchanges": "row",
        "exchanged": "row index", "exchange_way": "one other", "turned_pairs": "one other",
    },
    "kinds": {
        "dickson": "degree number", "middle_of": "step", "dickson_form": "step", "is_power": "step",
        "exchange_kind": "row", "power_exchange": "row",
    },
    "straight": {
        "turns": "step", "straight_pairs": "one other", "are_straight": "one other", "partners": "one other", "own": "step",
    },
    "commuting": {
        "commutes": "one other", "commuting_heads": "step degree", "commuting_try": "step degree head",
        "commuting_break": "step degree head", "is_commuting_break": "step degree head value",
        "commuting_with": "step degree", "commuting_degrees": "step most",
    },
    "again": {
        "root_degree": "step times", "root_heads": "step times", "root_try": "step times head",
        "root_break": "step times head", "is_root_break": "step times head value", "roots_of": "step times",
        "most_times": "step", "common_again": "one other", "common_break": "one other",
        "is_common_break": "one other value",
    },
    "commonwhole": {
        "common_whole": "one other", "are_joined": "one other", "bar_places": "one other", "is_bar": "one other value",
    },
    "quotients": {
        "firsts": "step last", "middles": "step first last", "both_firsts": "one last other far",
        "number_roots": "number degree", "first_bar": "step last", "is_first_bar": "step last value",
    },
    "roundabout": {
        "turned_round": "step degree", "turned_rounds": "step", "round_class": "step", "round_way": "one other",
        "are_round": "one other",
    },
    "wordsof": {
        "word_whole": "steps word", "word_numbers": "steps word start", "words_alike": "steps one other",
        "parting_number": "one other", "struck_out": "one other", "relations": "steps most", "is_free_to": "steps most",
        "word_classes": "steps most", "word_of": "steps step most",
    },
    "starts": {
        "bounds_of": "step", "comes_round": "step start", "leaves": "step start", "starts": "step", "rings": "step",
        "ring_lengths": "step", "common_starts": "one other",
    },
    "twostarts": {
        "comes_together": "step one other", "apart_moments": "step one other", "is_apart_at": "step one other value",
    },
    "choices": {
        "choice_bound": "steps", "reach": "steps start goal", "closed_list": "steps start goal",
        "is_closed": "steps start goal value", "count_words": "steps start goal length", "stays": "steps start",
        "is_staying": "steps start value",
    },
    "rests": {
        "step_rests": "step modulo", "rest_at": "step modulo rest", "same_rests": "one other modulo",
        "parting_rest": "one other modulo", "is_onto": "step modulo", "rest_ring": "step modulo rest",
        "rest_after": "step modulo rest times", "ring_rests": "step modulo", "rest_rings": "step modulo",
    },
    "texts": {
        "number_text": "number", "step_text": "step", "row_text": "row", "read_number": "text", "read_step": "text",
        "read_row": "text",
    },
}
CLASSES = {
    ("house", "House"): {
        "__init__": "", "names": "", "thing": "name", "do": "deed", "follow": "deeds", "trial": "deeds", "undo": "", "log": "",
        "copy": "", "__len__": "", "__iter__": "", "__eq__": "other",
    },
    ("page", "Page"): {
        "__init__": "text", "all_true": "", "named": "name", "__len__": "", "__iter__": "", "__eq__": "other", "__str__": "",
    },
}
# names that methods and attributes of the package may not have: those of values of Python's own
BUILTIN_NAMES = {name for kind in (str, int, list, dict, set, tuple, bytes) for name in dir(kind)}


def sources():
    """Return the (name, text, tree) of each file of the package."""
    files = sorted(FOLDER.glob("*.py"))
    return [(path.stem, path.read_text(encoding="utf-8"), ast.parse(path.read_text(encoding="utf-8"))) for path in files]


def without_comments(text, tree):
    """Return the text of a file without comments and docstrings."""
    lines = text.split("\n")
    for node in ast.walk(tree):
        if isinstance(node, (ast.Module, ast.FunctionDef, ast.ClassDef)) and ast.get_docstring(node) is not None:
            for place in range(node.body[0].lineno - 1, node.body[0].end_lineno):
                lines[place] = ""
    return "\n".join(line.split("#")[0] for line in lines)


def bound_names(function):
    """Return all names that a function binds."""
    names = {part.arg for part in ast.walk(function) if isinstance(part, ast.arg)}
    names |= {part.id for part in ast.walk(function) if isinstance(part, ast.Name) and isinstance(part.ctx, ast.Store)}
    return names


class Files(unittest.TestCase):
    def test_sizes_and_characters(self):
        for path in FOLDER.iterdir():
            if path.name != "__pycache__":
                self.assertRegex(path.name, r"^[a-z0-9_]+\.py$")
        for name, text, tree in sources():
            lines = text.split("\n")
            self.assertLessEqual(len(lines), 399, name)
            self.assertLessEqual(max(map(len, lines)), 120, name)
            self.assertTrue(all(" " <= sign <= "~" or sign == "\n" for sign in text), name)
            for node in ast.walk(tree):
                if isinstance(node, ast.FunctionDef):
                    self.assertLessEqual(node.end_lineno - node.lineno + 1, 40, node.name)

    def test_imports(self):
        defined = {name: {node.name for node in tree.body if hasattr(node, "name")}
                   | {node.targets[0].id for node in tree.body if isinstance(node, ast.Assign)}
                   for name, _, tree in sources()}
        for name, _, tree in sources():
            inner = [node for node in ast.walk(tree) if isinstance(node, (ast.Import, ast.ImportFrom))]
            self.assertEqual(inner, [node for node in tree.body if node in inner])
            for node in inner:
                self.assertIsInstance(node, ast.ImportFrom)
                told = {alias.name for alias in node.names}
                self.assertTrue(all(alias.asname is None for alias in node.names))
                if node.module == "math":
                    self.assertLessEqual(told, {"gcd", "lcm", "isqrt", "comb"})
                else:
                    self.assertTrue(node.module.startswith("stepswithin."))
                    self.assertLessEqual(told, defined[node.module.split(".")[1]])

    def test_names(self):
        for name, text, tree in sources():
            imported = {alias.name for node in tree.body if isinstance(node, ast.ImportFrom) for alias in node.names}
            classes = {node.name for node in tree.body if isinstance(node, ast.ClassDef)}
            self.assertIsNone(BARRED_WORDS.search(without_comments(text, tree)), name)
            for node in ast.walk(tree):
                if isinstance(node, ast.FunctionDef):
                    names = bound_names(node) | {node.name}
                    self.assertEqual(names & (imported | classes | set(dir(builtins)) - {"__init__"}), set(), node.name)
                if isinstance(node, ast.Name) and isinstance(node.ctx, ast.Load) and hasattr(builtins, node.id):
                    self.assertIn(node.id, LET_BUILTINS)

    def test_values(self):
        for name, _, tree in sources():
            for node in ast.walk(tree):
                self.assertNotIsInstance(node, (ast.Global, ast.AsyncFunctionDef, ast.Set, ast.SetComp, ast.GeneratorExp))
                if isinstance(node, ast.Try):
                    self.assertEqual([handler.type.id for handler in node.handlers], ["StepError"])
                    self.assertEqual(node.finalbody, [])
                if isinstance(node, ast.Constant):
                    self.assertNotIsInstance(node.value, float)
                if isinstance(node, ast.BinOp):
                    self.assertNotIsInstance(node.op, ast.Div)
                    if isinstance(node.op, ast.Pow):
                        self.assertIsInstance(node.right, ast.Constant)
                if isinstance(node, ast.Raise):
                    self.assertIsInstance(node.exc, ast.Call)

    def test_classes(self):
        for name, _, tree in sources():
            for node in [node for node in tree.body if isinstance(node, ast.ClassDef)]:
                self.assertEqual(node.decorator_list, [])
                methods = {part.name for part in node.body if isinstance(part, ast.FunctionDef)}
                assigned = {part.attr for part in ast.walk(node)
                            if isinstance(part, ast.Attribute) and isinstance(part.ctx, ast.Store)}
                self.assertEqual(methods & assigned, set(), (name, node.name))
                plain = {method for method in methods if not method.startswith("__")}
                self.assertLessEqual((plain | assigned) & BUILTIN_NAMES, {"copy"}, (name, node.name))

    def test_used_imports(self):
        for name, text, tree in sources():
            for node in tree.body:
                if isinstance(node, ast.ImportFrom):
                    for alias in node.names:
                        self.assertGreater(len(re.findall(rf"\b{alias.name}\b", text)), 1, (name, alias.name))


class Interface(unittest.TestCase):
    def test_names_and_parameters(self):
        for name, functions in INTERFACE.items():
            module = importlib.import_module(f"stepswithin.{name}")
            for function, parameters in functions.items():
                told = getattr(module, function)
                self.assertEqual(told.__module__, module.__name__)
                self.assertEqual(list(inspect.signature(told).parameters), parameters.split())

    def test_classes(self):
        for (name, kind), methods in CLASSES.items():
            told = getattr(importlib.import_module(f"stepswithin.{name}"), kind)
            self.assertEqual(told.__module__, f"stepswithin.{name}")
            for method, parameters in methods.items():
                self.assertIn(method, vars(told))
                self.assertEqual(list(inspect.signature(vars(told)[method]).parameters), ["self", *parameters.split()])


if __name__ == "__main__":
    unittest.main()
