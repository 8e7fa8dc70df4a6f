"""The interface (its names, where they are defined, their arguments), the form of the files, and promise 1.

No clock, random source, file or network is imported, and all constants are integers or texts.
"""

import ast
import builtins
import inspect
import unittest
from importlib import import_module
from pathlib import Path

PACKAGE = Path(__file__).resolve().parent.parent / "fardials"

# For each file its functions with their parameters; for a class, those of each of its methods.
INTERFACE = {
    "shapes": {
        "check_shape": "(shape)", "plan_count": "(shape)", "contexts": "(shape)",
        "outcomes": "(shape)", "context_index": "(shape, context)",
        "outcome_index": "(shape, outcome)",
    },
    "plans": {
        "plans": "(shape)", "check_plan": "(shape, plan)", "plan_outcome": "(plan, context)",
    },
    "tables": {
        "Table": {
            "__init__": "(self, shape, whole, rows)", "empty": "(shape)",
            "amount": "(self, context, outcome)", "__getitem__": "(self, at)",
            "__iter__": "(self)", "__eq__": "(self, other)", "__add__": "(self, other)",
            "__sub__": "(self, other)", "__mul__": "(self, other)", "__rmul__": "(self, other)",
        },
        "lies_below": "(first, second)", "plan_table": "(shape, plan)",
    },
    "ratings": {
        "check_rating": "(shape, rating)", "rate_plan": "(shape, rating, plan)",
        "rate_table": "(rating, table)",
    },
    "mixtures": {
        "Mixture": {
            "__init__": "(self, shape, pairs)", "total": "(self)", "__contains__": "(self, x)",
            "__iter__": "(self)", "gathered": "(shape, pairs)",
        },
        "mixture_table": "(mixture)", "draws": "(mixture)",
    },
    "shares": {
        "Share": {"__init__": "(self, mixture, *, bottom, costs)"},
        "is_share": "(table, share)",
    },
    "telling": {
        "group_amount": "(table, hands, context, signs)", "single": "(table, hand, dial)",
        "first_telling": "(table)", "check_quiet": "(table)",
    },
    "views": {
        "restricted": "(table, hand, *, dials)", "reordered": "(table, order)",
        "left_out": "(table, hand, /, dial=0)",
    },
    "short": {
        "places": "(shape)", "entry_terms": "(shape, context, outcome)", "short_form": "(table)",
        "full_form": "(shape, numbers)", "short_rating": "(shape, rating)",
    },
    "dependence": {"dependency": "(vectors)"},
    "thin": {"entry_vector": "(table)", "is_thin": "(mixture)", "thin": "(mixture)"},
    "peel": {"peel": "(table)"},
    "systems": {
        "System": {
            "__init__": "(self, rows, *, limits, gains)", "entering": "(self)",
            "leaving": "(self, variable)", "turn": "(self, index, variable)",
        },
    },
    "best": {
        "Finding": {"__init__": "(self, solution, prices, bottom, worth)"},
        "best": "(rows, *, limits, gains)", "is_best": "(rows, finding, *, limits, gains)",
    },
    "plainshare": {"plain_share": "(table)"},
    "stretches": {
        "stretch": "(table, dial)", "all_stretches": "(table)", "meeting": "(stretches)",
        "gap": "(table)", "joint": "(table, dial, both)",
    },
    "meeting": {"broken_pair": "(table)", "meeting_share": "(table)"},
    "squares": {
        "ways": "()", "lost_entries": "(way)", "box": "(way)", "excess": "(table, way)",
        "lost_plan": "(way, context, outcome)", "corner_form": "(table)",
        "square_share": "(table)",
    },
    "halves": {
        "Half": {
            "__init__": "(self, shape, states, kinds)", "fixed": "(shape, plan)", "live": "(self)",
            "__eq__": "(self, other)", "__contains__": "(self, x)", "__xor__": "(self, other)",
        },
        "all_halves": "(shape)", "half_table": "(half)", "half_draw": "(table, number)",
        "halves": "(table)",
    },
    "corners": {
        "broken_square": "(half)", "half_plans": "(half)", "split_table": "(table)",
        "two_parts": "(table)",
    },
    "games": {
        "plain_best": "(shape, rating)", "best_plans": "(shape, rating)",
        "half_best": "(shape, rating)",
    },
    "boxbest": {
        "BoxBest": {"__init__": "(self, table, worth, prices)"},
        "is_box_best": "(shape, rating, found)", "box_best": "(shape, rating)",
    },
    "trees": {"leaves": "(tree)", "check_trees": "(trees, hand, boxes, shape)"},
    "wires": {
        "wired": "(boxes, *, shape, left, right)",
        "wired_mixture": "(mixtures, *, shape, left, right)",
    },
    "grafts": {"grafted": "(trees, inner, *, counts)"},
    "bits": {"independent_rows": "(matrix)", "products": "(matrix)", "squares": "(matrix)"},
    "parity": {"parity_answer": "(shape, asked)", "parity_table": "(shape, kinds)"},
    "onesign": {
        "OneSign": {
            "__init__": "(self, count, left, right)", "__call__": "(self, row, column, signs)",
        },
        "one_sign": "(matrix)",
    },
    "houses": {
        "World": {
            "__init__": "(self, shape, draws, schedule)", "finished": "(self)",
            "ask": "(self, hand, number)", "say": "(self, hand)", "fall": "(self, hand)",
            "carry": "(self, number)", "__contains__": "(self, x)", "outcome": "(self, number)",
            "judged": "(self)", "tally": "(self)", "log": "(self, hand)", "sent": "(self)",
            "__call__": "(self, deed)", "rebuilt": "(shape, draws, schedule, logs)",
        },
        "sweep": "(shape, draws)", "perform": "(world, deeds)",
    },
    "texts": {
        "write_table": "(table)", "read_table": "(text)", "write_share": "(share)",
        "read_share": "(text)", "chart": "(table)",
    },
    "desk": {
        "reordered_share": "(share, order)", "quick_share": "(table)", "certificate": "(text)",
        "judge": "(text, paper)",
    },
}

# What may be imported from Python's own modules.
LIBRARY = {"math": ["gcd", "lcm"]}

MOST_LINES = 399
MOST_FUNCTION_LINES = 40
MOST_CHARACTERS = 120
BUILTINS = ["abs", "all", "any", "enumerate", "int", "isinstance", "iter", "len", "list", "max", "min",
            "range", "reversed", "set", "sorted", "str", "sum", "tuple", "zip"]
# A parameter that is an object that can be called.
CALLED = ["world"]


def sources():
    return {path.stem: path.read_text(encoding="utf-8") for path in PACKAGE.glob("*.py")}


def trees():
    return {name: ast.parse(text) for name, text in sources().items()}


def defined(body):
    return {node.name: node for node in body if isinstance(node, (ast.FunctionDef, ast.ClassDef))}


class Interface(unittest.TestCase):
    def test_names_are_defined_in_their_files_with_their_parameters(self):
        for file, names in INTERFACE.items():
            module = import_module(f"fardials.{file}")
            here = defined(trees()[file].body)
            for name, wanted in names.items():
                with self.subTest(file=file, name=name):
                    self.assertIn(name, here)
                    self.same_parameters(here[name], getattr(module, name), wanted)

    def same_parameters(self, node, item, wanted):
        if isinstance(wanted, str):
            self.assertEqual(str(inspect.signature(item)), wanted)
            return
        own = defined(node.body)
        for name, parameters in wanted.items():
            self.assertIn(name, own)
            method = getattr(item, name)
            method = method.fget if isinstance(method, property) else method
            self.assertEqual(str(inspect.signature(method)), parameters, name)


class Form(unittest.TestCase):
    def test_the_folder_contains_python_files_alone(self):
        others = [path.name for path in PACKAGE.iterdir()
                  if path.suffix != ".py" and path.name != "__pycache__"]
        self.assertEqual(others, [])

    def test_sizes_and_characters(self):
        for name, text in sources().items():
            with self.subTest(name):
                self.assertTrue(all(" " <= sign <= "~" or sign == "\n" for sign in text))
                self.assertLessEqual(len(text.split("\n")) - 1, MOST_LINES)
                self.assertLessEqual(max(map(len, text.split("\n"))), MOST_CHARACTERS)

    def test_functions_are_short(self):
        for name, tree in trees().items():
            for node in ast.walk(tree):
                if isinstance(node, ast.FunctionDef):
                    lines = node.end_lineno - node.lineno + 1
                    self.assertLessEqual(lines, MOST_FUNCTION_LINES, (name, node.name))

    def test_imports_are_from_files_of_the_package_that_define_the_names(self):
        found = trees()
        for name, tree in found.items():
            for node in ast.walk(tree):
                self.assertNotIsInstance(node, ast.Import, name)
                if isinstance(node, ast.ImportFrom):
                    folder, _, file = node.module.partition(".")
                    self.assertIn(folder, ["fardials", *LIBRARY], name)
                    self.assertEqual(node.level, 0, name)
                    known = defined(found[file].body) if file else LIBRARY[folder]
                    for alias in node.names:
                        self.assertIsNone(alias.asname)
                        self.assertIn(alias.name, known, name)

    def test_words_of_the_language_that_are_not_used(self):
        barred = (ast.GeneratorExp, ast.Lambda, ast.Set, ast.SetComp, ast.Div, ast.Global,
                  ast.AugAssign, ast.Try, ast.AsyncFunctionDef, ast.AnnAssign)
        for name, tree in trees().items():
            for node in ast.walk(tree):
                self.assertNotIsInstance(node, barred, name)
                if isinstance(node, ast.Constant):
                    self.assertNotIsInstance(node.value, (float, bytes), name)

    def test_called_and_assigned_names(self):
        for name, tree in trees().items():
            own = set(defined(tree.body))
            own |= {alias.name for node in ast.walk(tree) if isinstance(node, ast.ImportFrom)
                    for alias in node.names}
            taken = own | set(dir(builtins))
            for node in ast.walk(tree):
                if isinstance(node, ast.Call) and isinstance(node.func, ast.Name):
                    self.assertIn(node.func.id, own | {"cls", *BUILTINS, *CALLED}, name)
                if isinstance(node, ast.Name) and isinstance(node.ctx, ast.Store):
                    self.assertNotIn(node.id, taken, name)
                if isinstance(node, ast.arg):
                    self.assertNotIn(node.arg, taken, name)
