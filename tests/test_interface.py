"""The interface: names, arguments, and where they are defined."""

import importlib
import inspect
import unittest

FUNCTIONS = {
    "fractions": {
        "fraction": "top bottom", "plus": "one other", "minus": "one other", "times": "one other",
        "over": "one other", "is_below": "one other",
    },
    "webs": {
        "root_of": "held other", "held": "web", "roots": "web", "neighbours": "web ware",
        "pieces": "web",
    },
    "deals": {
        "out_of": "web move", "moved": "web move", "led": "web index amount",
        "played": "web purse deal", "owes": "web purse deal", "is_deal": "web purse wish thing",
        "moves_between": "one_web other_web", "change_of": "one_web other_web",
    },
    "striking": {"struck": "web purse wish order"},
    "wishes": {
        "scales": "web purse wish", "bar": "web purse wish", "is_scales": "web purse wish thing",
        "is_bar": "web purse wish thing", "deal_by": "web scales", "deal_for": "web purse wish",
    },
    "brims": {
        "brim": "web purse ware", "brim_deal": "web purse ware",
        "least_more": "web purse wish ware", "rule": "web purse wish one other",
        "sides": "web purse wish bar",
    },
    "fewest": {
        "least_wares": "web purse wish", "fewest_stalls": "web purse wish", "needed": "web purse wish",
    },
    "nothing": {
        "fit": "web", "uneven_ring": "web", "is_uneven_ring": "web thing", "for_nothing": "web ware",
        "taking": "web ware", "uneven_pieces": "web", "taken_in": "web order",
    },
    "rings": {"rings": "web", "uneven_rings": "web", "fewest_struck": "web", "star": "web ring"},
    "told": {
        "left_table": "web told", "parting": "one_web other_web told",
        "is_parting": "one_web other_web told thing", "unfelt": "web told", "without": "web index",
        "merged": "web ware",
    },
    "drags": {
        "drag": "web one other", "one_stall": "web one other", "trees": "web",
        "two_trees": "web one other",
    },
    "forests": {
        "all_trees": "web", "all_two_trees": "web one other", "rooted": "web gifts",
        "small_web": "web told",
    },
    "unowed": {"unowed": "web purse wish", "is_unowed": "web purse wish thing"},
    "slips": {
        "can_fill": "web slips lot", "greatest_lots": "web slips", "kept": "web slips lot ware",
        "in_row": "web slips order",
    },
    "customers": {"served": "web customers order", "spread": "web customers"},
    "levels": {
        "least_worth": "web rates", "worth_of": "web rates", "levelled": "web rates", "takings": "web rates",
        "together": "one_web other_web",
    },
    "routes": {
        "route_rule": "web route", "route_out": "web route amount", "route_deal": "web route amount",
        "meeting": "web one other", "best_route": "web one other amount", "best_spans": "web one other",
    },
    "orders": {"run": "web purse text", "alike_orders": "web purse one other"},
    "brokers": {"tried": "web purse wish broker", "short_by": "web purse ware broker"},
    "texts": {
        "web_text": "web", "read_web": "text", "deal_text": "deal", "read_deal": "text",
        "slips_text": "web slips", "read_slips": "web text",
    },
    "hidden": {"told_back": "wares ask", "roots_of_drags": "drags", "drags_of": "web"},
}
CLASSES = {
    ("webs", "Web"): {"__init__": "wares stalls", "__eq__": "other"},
    ("strikings", "Striking"): {
        "__init__": "web purse wish", "strike": "ware", "more": "ware amount", "back": "",
        "left": "", "slant": "ware", "root": "one other", "could": "ware", "depth": "", "copy": "",
        "trying": "deed",
    },
    ("fairs", "Fair"): {
        "__init__": "web", "put_up": "stall", "strike": "index", "fill": "index factor", "lead": "index amount",
        "back": "", "now": "", "meets": "purse wish", "most": "purse ware", "deal": "purse moves", "depth": "",
        "copy": "", "trying": "deed",
    },
    ("visits", "Visit"): {
        "__init__": "web purse", "put": "index ware amount", "play": "deal", "back": "", "now": "", "has": "",
        "can": "wish", "most": "ware", "finish": "wish", "depth": "", "copy": "", "trying": "deed",
    },
    ("desks", "Desk"): {"__init__": "", "tell": "line", "undoable": ""},
}


class Interface(unittest.TestCase):
    def test_functions(self):
        for file, functions in FUNCTIONS.items():
            module = importlib.import_module("rootstalls." + file)
            for name, wanted in functions.items():
                function = getattr(module, name)
                self.assertTrue(inspect.isfunction(function))
                self.assertEqual(module.__name__, function.__module__)
                self.assertEqual(wanted.split(), list(inspect.signature(function).parameters))

    def test_classes_have_their_methods_themselves(self):
        for (file, name), methods in CLASSES.items():
            module = importlib.import_module("rootstalls." + file)
            one = getattr(module, name)
            self.assertEqual(module.__name__, one.__module__)
            for method, wanted in methods.items():
                self.assertIn(method, vars(one))
                names = list(inspect.signature(vars(one)[method]).parameters)
                self.assertEqual(["self"] + wanted.split(), names)


if __name__ == "__main__":
    unittest.main()
