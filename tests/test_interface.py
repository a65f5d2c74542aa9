"""The interface: each name is defined in its file, and each listed method in the body of its class."""

import ast
import unittest
from inspect import signature
from importlib import import_module
from pathlib import Path

ROOT = Path(__file__).resolve().parent.parent

RATIO = ("__init__ __add__ __sub__ __mul__ __neg__ __abs__ __eq__ __bool__ __str__ over compare floor ceil read "
         "total").split()
FAMILY = ["free", "is_base", "rank_of", "span", "ring", "bases", "dead", "sure", "__eq__"]
CLASSES = {
    "nodearer.exact.ratios": {"Ratio": RATIO},
    "nodearer.families.family": {"Family": FAMILY},
    "nodearer.families.counts": {"Choice": ["__init__"], "Groups": ["__init__"]},
    "nodearer.families.rooms": {"Rooms": ["__init__"]},
    "nodearer.families.webs": {"Web": ["__init__"]},
    "nodearer.families.vectors": {"Vectors": ["__init__"]},
    "nodearer.families.seats": {"Seats": ["__init__", "seating"]},
    "nodearer.families.told": {"Told": ["__init__"]},
    "nodearer.families.built": {"Both": ["__init__"], "Short": ["__init__"]},
    "nodearer.families.turned": {"Mirror": ["__init__"], "Minor": ["__init__", "lifted"]},
}
FUNCTIONS = {
    "nodearer.exact.lots": {
        "lot_of": "things entries", "all_lots": "things", "joined": "things first second",
        "common": "things first second", "without": "things first second", "cost_of": "things costs lot"},
    "nodearer.exact.elimination": {
        "rank_of_rows": "rows width", "direction_of": "rows width", "combination_of": "rows width target"},
    "nodearer.exact.programs": {
        "solve_program": "rows sums costs", "judge_program": "rows sums costs answer"},
    "nodearer.families.told": {"told_copy": "family"},
    "nodearer.families.exchange": {
        "partner": "family first second thing", "path": "family first second", "first_failure": "things lots"},
    "nodearer.families.rings": {"rings": "family", "cuts": "family", "flats": "family"},
    "nodearer.families.greedy": {
        "least_base": "family costs", "floor_paper": "family costs", "judge_floor": "family costs floor paper",
        "least_family": "family costs"},
}
ARGUMENTS = {
    ("nodearer.families.counts", "Choice"): "(things, take)", ("nodearer.families.counts", "Groups"): "(groups, takes)",
    ("nodearer.families.rooms", "Rooms"): "(things, rooms)", ("nodearer.families.webs", "Web"): "(places, ties)",
    ("nodearer.families.vectors", "Vectors"): "(rows, prime=0)", ("nodearer.families.seats", "Seats"): "(seats, fits)",
    ("nodearer.families.told", "Told"): "(things, lots)", ("nodearer.families.built", "Both"): "(first, second)",
    ("nodearer.families.built", "Short"): "(family, take)", ("nodearer.families.turned", "Mirror"): "(family)",
    ("nodearer.families.turned", "Minor"): "(family, taken, left)", ("nodearer.exact.ratios", "Ratio"): "(num, den=1)",
}


def body_of(module):
    """The functions and classes that a file defines itself, by their names."""
    tree = ast.parse((ROOT / (module.replace(".", "/") + ".py")).read_text())
    return {node.name: node for node in tree.body if isinstance(node, (ast.FunctionDef, ast.ClassDef))}


class InterfaceTest(unittest.TestCase):
    def test_classes_and_their_methods(self):
        for module, classes in CLASSES.items():
            defined = body_of(module)
            for name, told in classes.items():
                self.assertIsInstance(defined[name], ast.ClassDef)
                own = {node.name for node in defined[name].body if isinstance(node, ast.FunctionDef)}
                self.assertLessEqual(set(told), own, name)

    def test_functions_and_their_arguments(self):
        for module, functions in FUNCTIONS.items():
            defined = body_of(module)
            for name, told in functions.items():
                self.assertIsInstance(defined[name], ast.FunctionDef)
                self.assertEqual(list(signature(getattr(import_module(module), name)).parameters), told.split())

    def test_arguments_of_classes(self):
        for (module, name), told in ARGUMENTS.items():
            self.assertEqual(str(signature(getattr(import_module(module), name))), told)

    def test_static_methods_and_properties(self):
        ratio = import_module("nodearer.exact.ratios").Ratio
        family = import_module("nodearer.families.family").Family
        self.assertIsInstance(vars(ratio)["read"], staticmethod)
        self.assertIsInstance(vars(ratio)["total"], staticmethod)
        self.assertIsInstance(vars(family)["dead"], property)
        self.assertIsInstance(vars(family)["sure"], property)

    def test_one_bound_for_things(self):
        looks = import_module("nodearer.looks")
        family = import_module("nodearer.families.family")
        self.assertEqual(vars(looks)["_MOST_THINGS"], family.MOST_THINGS)


if __name__ == "__main__":
    unittest.main()
