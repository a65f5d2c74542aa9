"""The interface: each name is defined in its file, and each listed method in the body of its class."""

import ast
import unittest
from inspect import signature
from importlib import import_module
from pathlib import Path

ROOT = Path(__file__).resolve().parent.parent

RATIO = ("__init__ __add__ __sub__ __mul__ __neg__ __abs__ __eq__ __bool__ __str__ over compare floor ceil read "
         "total").split()
FAMILY = ["free", "is_base", "rank_of", "span", "ring", "bases", "dead", "sure", "__eq__"]
CLASSES = {
    "nodearer.exact.ratios": {"Ratio": RATIO},
    "nodearer.families.family": {"Family": FAMILY},
    "nodearer.families.counts": {"Choice": ["__init__"], "Groups": ["__init__"]},
    "nodearer.families.rooms": {"Rooms": ["__init__"]},
    "nodearer.families.webs": {"Web": ["__init__"]},
    "nodearer.families.vectors": {"Vectors": ["__init__"]},
    "nodearer.families.seats": {"Seats": ["__init__", "seating"]},
    "nodearer.families.told": {"Told": ["__init__"]},
    "nodearer.families.built": {"Both": ["__init__"], "Short": ["__init__"]},
    "nodearer.families.turned": {"Mirror": ["__init__"], "Minor": ["__init__", "lifted"]},
    "nodearer.shares.mixtures": {
        "Mixture": "__init__ __len__ __iter__ __eq__ weight_of mean trimmed blend".split()},
    "nodearer.wishes.wishes": {"Wish": "__init__ of count_in keeps missed mean_in __eq__ __str__".split()},
    "nodearer.wishes.books": {"Book": "__init__ slack missed keeps is_near fits_shares __eq__".split()},
    "nodearer.walks.states": {
        "State": "__init__ is_sound droppable table direction ahead moved dropped".split()},
    "nodearer.walks.walker": {"Walker": "__init__ ended steps step run open_states found ladder".split()},
    "nodearer.prices.answers": {"Answer": [], "Refusal": ["__init__", "holds"], "Settlement": ["__init__", "holds"]},
    "nodearer.prices.trees": {"Tree": ["__init__", "holds"]},
    "nodearer.draws.calendars": {"Calendar": "__init__ __len__ __iter__ day counts of_thing".split()},
    "nodearer.fronts.front": {"Front": ["__init__", "solve", "words"]},
    "nodearer.fronts.works": {"Works": "__init__ laying loads end words".split(), "Fast": ["__init__"]},
    "nodearer.fronts.nets": {"Net": ["__init__", "over", "words"]},
    "nodearer.fronts.panels": {"Panel": ["__init__", "counts", "words"]},
    "nodearer.fronts.crews": {"Crew": ["__init__", "seating", "words"]},
    "nodearer.desk.desks": {"Desk": "__init__ do undo redo history undone answer held answer_with trial".split()},
}
FUNCTIONS = {
    "nodearer.exact.lots": {
        "lot_of": "things entries", "all_lots": "things", "joined": "things first second",
        "common": "things first second", "without": "things first second", "cost_of": "things costs lot"},
    "nodearer.exact.elimination": {
        "rank_of_rows": "rows width", "direction_of": "rows width", "combination_of": "rows width target"},
    "nodearer.exact.programs": {
        "solve_program": "rows sums costs", "judge_program": "rows sums costs answer"},
    "nodearer.families.told": {"told_copy": "family"},
    "nodearer.families.exchange": {
        "partner": "family first second thing", "path": "family first second", "first_failure": "things lots"},
    "nodearer.families.rings": {"rings": "family", "cuts": "family", "flats": "family"},
    "nodearer.families.greedy": {
        "least_base": "family costs", "floor_paper": "family costs", "judge_floor": "family costs floor paper",
        "least_family": "family costs"},
    "nodearer.shares.sums": {"sum_of": "family shares lot", "barrier": "family shares", "shares_of": "things lot"},
    "nodearer.shares.blocks": {
        "tight_lots": "family shares", "chain": "family shares", "blocks": "family shares"},
    "nodearer.shares.peel": {
        "peel": "family shares", "peeled": "family shares", "judge_mixture": "family shares mixture"},
    "nodearer.shares.reach": {"reach": "family shares direction", "is_corner": "family shares"},
    "nodearer.shares.rotas": {"rota": "family counts days", "judge_rota": "family counts days lots"},
    "nodearer.wishes.moved": {"minor_book": "book taken left", "mirror_book": "book", "side_book": "first second"},
    "nodearer.wishes.plain": {"keepers": "book", "near_bases": "book"},
    "nodearer.walks.states": {"first_state": "book shares"},
    "nodearer.walks.deeds": {"deed": "state", "done": "state line"},
    "nodearer.walks.ladders": {"judge_ladder": "book shares lines", "followed": "book shares lines"},
    "nodearer.walks.near": {
        "near_mixture": "book shares", "near_base": "book shares costs", "judge_near": "book shares mixture"},
    "nodearer.prices.charges": {
        "prices_fit": "book prices", "charge_of": "book prices lot", "floor_of": "book costs prices",
        "lowest": "book costs prices"},
    "nodearer.prices.judges": {
        "judge_refusal": "book prices", "judge_bound": "book costs bound prices", "judge_shares": "book shares"},
    "nodearer.prices.settle": {"settle": "book costs", "value_of": "book costs"},
    "nodearer.prices.trees": {"least_keeper": "book costs"},
    "nodearer.prices.curves": {"curve": "book costs at"},
    "nodearer.draws.tapes": {"period_of": "mixture", "drawn": "mixture number"},
    "nodearer.fronts.works": {"fast": "times"},
    "nodearer.texts.kinds": {"family_text": "family", "read_family": "text"},
    "nodearer.texts.sheets": {"book_text": "book costs", "read_book": "text"},
    "nodearer.texts.papers": {
        "mixture_text": "mixture", "read_mixture": "things text", "prices_text": "prices", "read_prices": "text",
        "ladder_text": "lines", "read_ladder": "things text"},
    "nodearer.texts.reports": {"report": "book costs answer"},
    "nodearer.desk.edits": {"edited": "book costs edit", "inverse": "book costs edit"},
}
ARGUMENTS = {
    ("nodearer.families.counts", "Choice"): "(things, take)", ("nodearer.families.counts", "Groups"): "(groups, takes)",
    ("nodearer.families.rooms", "Rooms"): "(things, rooms)", ("nodearer.families.webs", "Web"): "(places, ties)",
    ("nodearer.families.vectors", "Vectors"): "(rows, prime=0)", ("nodearer.families.seats", "Seats"): "(seats, fits)",
    ("nodearer.families.told", "Told"): "(things, lots)", ("nodearer.families.built", "Both"): "(first, second)",
    ("nodearer.families.built", "Short"): "(family, take)", ("nodearer.families.turned", "Mirror"): "(family)",
    ("nodearer.families.turned", "Minor"): "(family, taken, left)", ("nodearer.exact.ratios", "Ratio"): "(num, den=1)",
    ("nodearer.shares.mixtures", "Mixture"): "(things, pairs)",
    ("nodearer.wishes.wishes", "Wish"): "(weights, *, most=None, least=None)",
    ("nodearer.wishes.books", "Book"): "(family, wishes)", ("nodearer.walks.states", "State"): "(book, shares, kept)",
    ("nodearer.walks.walker", "Walker"): "(book, shares)", ("nodearer.prices.answers", "Refusal"): "(prices)",
    ("nodearer.prices.answers", "Settlement"): "(mixture, prices, value, near, plan)",
    ("nodearer.prices.trees", "Tree"): "(base, lines)", ("nodearer.draws.calendars", "Calendar"): "(mixture)",
    ("nodearer.fronts.front", "Front"): "(book, costs)",
    ("nodearer.fronts.works", "Works"): "(times, limit, *, costs=None)",
    ("nodearer.fronts.works", "Fast"): "(works, refusal, settlement)",
    ("nodearer.fronts.nets", "Net"): "(places, cables, ports)",
    ("nodearer.fronts.panels", "Panel"): "(people, size, traits, *, costs=None)",
    ("nodearer.fronts.crews", "Crew"): "(seats, fits, traits, *, costs=None)",
    ("nodearer.desk.desks", "Desk"): "(book, costs)",
}
METHODS = {
    ("nodearer.shares.mixtures", "Mixture"): {
        "weight_of": "lot", "mean": "costs", "trimmed": "", "blend": "things parts"},
    ("nodearer.wishes.wishes", "Wish"): {
        "of": "things lot most least", "count_in": "lot", "keeps": "lot", "missed": "lot", "mean_in": "shares"},
    ("nodearer.wishes.books", "Book"): {
        "slack": "at", "missed": "lot", "keeps": "lot", "is_near": "lot", "fits_shares": "shares"},
    ("nodearer.walks.states", "State"): {
        "is_sound": "", "droppable": "", "table": "", "direction": "", "ahead": "direction", "moved": "direction step",
        "dropped": "at"},
    ("nodearer.walks.walker", "Walker"): {"step": "", "run": "most", "open_states": "", "found": "", "ladder": ""},
    ("nodearer.prices.answers", "Refusal"): {"holds": "book costs"},
    ("nodearer.prices.answers", "Settlement"): {"holds": "book costs"},
    ("nodearer.prices.trees", "Tree"): {"holds": "book costs"},
    ("nodearer.draws.calendars", "Calendar"): {"day": "number", "counts": "days", "of_thing": "thing"},
    ("nodearer.fronts.front", "Front"): {"solve": "", "words": "lot"},
    ("nodearer.fronts.works", "Works"): {"laying": "lot", "loads": "lot", "end": "lot", "words": "lot"},
    ("nodearer.fronts.nets", "Net"): {"over": "lot", "words": "lot"},
    ("nodearer.fronts.panels", "Panel"): {"counts": "lot", "words": "lot"},
    ("nodearer.fronts.crews", "Crew"): {"seating": "lot", "words": "lot"},
    ("nodearer.desk.desks", "Desk"): {
        "do": "edit", "undo": "", "redo": "", "history": "", "undone": "", "answer": "", "answer_with": "edits",
        "trial": "edits"},
}


def body_of(module):
    """The functions and classes that a file defines itself, by their names."""
    tree = ast.parse((ROOT / (module.replace(".", "/") + ".py")).read_text())
    return {node.name: node for node in tree.body if isinstance(node, (ast.FunctionDef, ast.ClassDef))}


class InterfaceTest(unittest.TestCase):
    def test_classes_and_their_methods(self):
        for module, classes in CLASSES.items():
            defined = body_of(module)
            for name, told in classes.items():
                self.assertIsInstance(defined[name], ast.ClassDef)
                own = {node.name for node in defined[name].body if isinstance(node, ast.FunctionDef)}
                self.assertLessEqual(set(told), own, name)

    def test_functions_and_their_arguments(self):
        for module, functions in FUNCTIONS.items():
            defined = body_of(module)
            for name, told in functions.items():
                self.assertIsInstance(defined[name], ast.FunctionDef)
                self.assertEqual(list(signature(getattr(import_module(module), name)).parameters), told.split())

    def test_arguments_of_classes(self):
        for (module, name), told in ARGUMENTS.items():
            self.assertEqual(str(signature(getattr(import_module(module), name))), told)

    def test_arguments_of_methods(self):
        for (module, name), told in METHODS.items():
            for method, words in told.items():
                names = list(signature(getattr(getattr(import_module(module), name), method)).parameters)
                self.assertEqual([word for word in names if word != "self"], words.split(), method)

    def test_default_of_run(self):
        walker = import_module("nodearer.walks.walker").Walker
        self.assertEqual(str(signature(walker.run)), "(self, most=120000)")

    def test_static_methods_and_properties(self):
        for module, name, method, kind in (
                ("nodearer.exact.ratios", "Ratio", "read", staticmethod),
                ("nodearer.exact.ratios", "Ratio", "total", staticmethod),
                ("nodearer.families.family", "Family", "dead", property),
                ("nodearer.families.family", "Family", "sure", property),
                ("nodearer.shares.mixtures", "Mixture", "blend", staticmethod),
                ("nodearer.wishes.wishes", "Wish", "of", classmethod),
                ("nodearer.walks.walker", "Walker", "ended", property),
                ("nodearer.walks.walker", "Walker", "steps", property),
                ("nodearer.desk.desks", "Desk", "held", property)):
            self.assertIsInstance(vars(getattr(import_module(module), name))[method], kind)

    def test_bases_of_classes(self):
        for module, name, base_module, base in (
                ("nodearer.prices.answers", "Refusal", "nodearer.prices.answers", "Answer"),
                ("nodearer.prices.answers", "Settlement", "nodearer.prices.answers", "Answer"),
                ("nodearer.fronts.works", "Works", "nodearer.fronts.front", "Front"),
                ("nodearer.fronts.nets", "Net", "nodearer.fronts.front", "Front"),
                ("nodearer.fronts.panels", "Panel", "nodearer.fronts.front", "Front"),
                ("nodearer.fronts.crews", "Crew", "nodearer.fronts.front", "Front")):
            self.assertEqual(getattr(import_module(module), name).__bases__,
                             (getattr(import_module(base_module), base),))

    def test_one_bound_for_things(self):
        looks = import_module("nodearer.looks")
        family = import_module("nodearer.families.family")
        self.assertEqual(vars(looks)["_MOST_THINGS"], family.MOST_THINGS)


if __name__ == "__main__":
    unittest.main()
