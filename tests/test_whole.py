"""What the document promises over the whole program: points 0.1 to 0.5, and the seven facts."""

import copy
import importlib
import random
import unittest
from itertools import permutations

from rootstalls.brims import brim
from rootstalls.customers import served
from rootstalls.deals import is_deal, owes, played
from rootstalls.desks import Desk
from rootstalls.fairs import Fair
from rootstalls.nothing import fit, for_nothing, is_uneven_ring, taking, uneven_ring
from rootstalls.striking import struck
from rootstalls.strikings import Striking
from rootstalls.told import left_table, merged, parting
from rootstalls.unowed import is_unowed, unowed
from rootstalls.visits import Visit
from rootstalls.webs import Web, pieces
from rootstalls.wishes import bar, deal_for, is_bar, is_scales, scales
from tests.samples import (
    BARE, EVEN, NONE, ODD, ONE, SPLIT, ZERO, Case, cases, pair, random_row, some_number, strip, webs,
    worth,
)
from tests.test_interface import CLASSES, FUNCTIONS

PURSE = [ONE, ZERO, ZERO]
WISH = [ZERO, (1, 2), ZERO]
MUCH = [ZERO, (9, 1), ZERO]
RATES = (ONE, (2, 1), (1, 3))
MOVES = [(0, 0, ONE), (1, 1, (1, 2))]
SLIPS = [(0, ONE, 1, (1, 2)), (1, ONE, 0, (1, 2))]
CUSTOMERS = [(0, ONE, 1), (1, ONE, 2)]
ROUTE = ((0, 0), (1, 1))
DRAGS = ((ZERO, (2, 3), (2, 3)), ((2, 3), ZERO, (2, 3)), ((2, 3), (2, 3), ZERO))

# A call or two of each function of the interface.
CALLS = {
    "fractions": {
        "fraction": [(6, -4)], "plus": [((1, 2), (1, 3))], "minus": [((1, 2), (1, 3))],
        "times": [((1, 2), (1, 3))], "over": [((1, 2), (1, 3))], "is_below": [((1, 2), (1, 3))],
    },
    "webs": {
        "root_of": [((1, 2), (8, 1)), (ONE, (2, 1))], "held": [(ODD,)], "roots": [(ODD,)],
        "neighbours": [(ODD, 1)], "pieces": [(SPLIT,), (BARE,)],
    },
    "deals": {
        "out_of": [(EVEN, (0, 0, ONE))], "moved": [(EVEN, (0, 0, ONE))], "led": [(EVEN, 0, (2, 1))],
        "played": [(EVEN, PURSE, MOVES)], "owes": [(EVEN, list(NONE), MOVES), (EVEN, PURSE, MOVES)],
        "is_deal": [(EVEN, PURSE, WISH, MOVES), (EVEN, PURSE, WISH, MOVES[:1])],
        "moves_between": [(EVEN, ODD), (EVEN, EVEN)], "change_of": [(EVEN, ODD)],
    },
    "striking": {"struck": [(EVEN, PURSE, WISH, (0, 1, 2)), (EVEN, PURSE, MUCH, (2, 1, 0))]},
    "wishes": {
        "scales": [(EVEN, PURSE, WISH), (EVEN, PURSE, MUCH)], "bar": [(EVEN, PURSE, WISH), (EVEN, PURSE, MUCH)],
        "is_scales": [(EVEN, PURSE, WISH, RATES)], "is_bar": [(EVEN, PURSE, MUCH, [ONE])],
        "deal_by": [(EVEN, RATES)], "deal_for": [(EVEN, PURSE, WISH), (EVEN, PURSE, MUCH)],
    },
    "brims": {
        "brim": [(EVEN, PURSE, 1)], "brim_deal": [(EVEN, PURSE, 1)], "least_more": [(EVEN, PURSE, MUCH, 1)],
        "rule": [(EVEN, PURSE, WISH, 0, 1)], "sides": [(EVEN, PURSE, WISH, RATES)],
    },
    "fewest": {
        "least_wares": [(EVEN, PURSE, MUCH)], "fewest_stalls": [(EVEN, PURSE, WISH)], "needed": [(EVEN, PURSE, WISH)],
    },
    "nothing": {
        "fit": [(EVEN,), (ODD,)], "uneven_ring": [(ODD,)], "is_uneven_ring": [(ODD, [ROUTE])],
        "for_nothing": [(ODD, 1)], "taking": [(ODD, 1)], "uneven_pieces": [(ODD,)], "taken_in": [(ODD, (2, 1, 0))],
    },
    "rings": {
        "rings": [(ODD,)], "uneven_rings": [(ODD,)], "fewest_struck": [(ODD,)], "star": [(EVEN, (0, 1, 2))],
    },
    "told": {
        "left_table": [(ODD, (0, 1))], "parting": [(EVEN, ODD, (0, 1)), (EVEN, EVEN, (0,))],
        "is_parting": [(EVEN, ODD, (0, 1), [PURSE])], "unfelt": [(EVEN, (0, 1))], "without": [(EVEN, 0)],
        "merged": [(EVEN, 0)],
    },
    "drags": {
        "drag": [(EVEN, 0, 1)], "one_stall": [(EVEN, 0, 1)], "trees": [(EVEN,)], "two_trees": [(EVEN, 0, 1)],
    },
    "forests": {
        "all_trees": [(EVEN,)], "all_two_trees": [(EVEN, 0, 1)], "rooted": [(EVEN, PURSE)],
        "small_web": [(EVEN, (0, 1))],
    },
    "unowed": {
        "unowed": [(EVEN, PURSE, WISH), (EVEN, PURSE, MUCH)], "is_unowed": [(EVEN, PURSE, WISH, MOVES[:1])],
    },
    "slips": {
        "can_fill": [(EVEN, SLIPS, (0, 1))], "greatest_lots": [(EVEN, SLIPS)], "kept": [(EVEN, SLIPS, (0,), 0)],
        "in_row": [(EVEN, SLIPS, (1, 0))],
    },
    "customers": {"served": [(EVEN, CUSTOMERS, (1, 0))], "spread": [(EVEN, CUSTOMERS)]},
    "levels": {
        "least_worth": [(EVEN, RATES)], "worth_of": [(EVEN, RATES)], "levelled": [(EVEN, RATES)],
        "takings": [(EVEN, RATES)], "together": [(EVEN, ODD)],
    },
    "routes": {
        "route_rule": [(EVEN, ROUTE)], "route_out": [(EVEN, ROUTE, ONE)], "route_deal": [(EVEN, ROUTE, ONE)],
        "meeting": [(ODD, ROUTE, ((2, 0),))], "best_route": [(ODD, 0, 2, ONE)], "best_spans": [(ODD, 0, 2)],
    },
    "orders": {
        "run": [(EVEN, PURSE, "times 2\nhalf 0 0\nend")], "alike_orders": [(EVEN, PURSE, "all 0 0", "put 1 0 0")],
    },
    "brokers": {
        "tried": [(EVEN, PURSE, WISH, deal_for), (EVEN, PURSE, WISH, lambda *told: None),
                  (EVEN, PURSE, MUCH, lambda *told: MOVES)],
        "short_by": [(EVEN, PURSE, 1, lambda *told: MOVES)],
    },
    "texts": {
        "web_text": [(ODD,)], "read_web": [("wares 2\n0 1 1 1",)], "deal_text": [(MOVES,)],
        "read_deal": [("0 0 1\n1 1 1/2",)], "slips_text": [(EVEN, SLIPS)],
        "read_slips": [(EVEN, "0 1 1 1/2\n1 1 0 1/2")],
    },
    "hidden": {
        "told_back": [(3, lambda purse, ware: brim(ODD, purse, ware))], "roots_of_drags": [(DRAGS,)],
        "drags_of": [(EVEN,)],
    },
}


def lists_in(thing):
    """All lists and dicts in a thing, itself too."""
    found = [thing] if isinstance(thing, (list, dict)) else []
    if isinstance(thing, (list, tuple)):
        for one in thing:
            found += lists_in(one)
    return found


def spoil(thing):
    """Changes all lists in a thing."""
    for one in lists_in(thing):
        one.append("spoilt")


class Calls(Case):
    def calls(self):
        for file, functions in CALLS.items():
            module = importlib.import_module("rootstalls." + file)
            for name, rows in functions.items():
                for arguments in rows:
                    yield getattr(module, name), arguments

    def test_each_function_is_called_here(self):
        self.assertEqual(set(FUNCTIONS), set(CALLS))
        for file, functions in FUNCTIONS.items():
            self.assertEqual(set(functions), set(CALLS[file]), file)

    def test_arguments_stay_as_they_are(self):
        for call, arguments in self.calls():
            before = copy.deepcopy(strip(arguments))
            call(*arguments)
            self.assertEqual(before, strip(arguments), call.__name__)

    def test_equal_arguments_give_equal_answers(self):
        for call, arguments in self.calls():
            first = call(*arguments)
            twins = tuple(
                Web(one.wares, list(one.stalls)) if isinstance(one, Web)
                else copy.deepcopy(one) if isinstance(one, (list, tuple)) else one for one in arguments
            )
            self.assertEqual(strip(first), strip(call(*twins)), call.__name__)

    def test_lists_that_are_returned_are_new(self):
        for call, arguments in self.calls():
            first = call(*arguments)
            kept = copy.deepcopy(first)
            second = call(*arguments)
            passed = [one for argument in arguments for one in lists_in(argument)]
            for one in lists_in(first):
                self.assertFalse(any(one is other for other in lists_in(second) + passed), call.__name__)
            spoil(first)
            self.assertEqual(kept, second)
            self.assertEqual(kept, call(*arguments))

    def test_rows_may_be_lists_or_tuples(self):
        for call, arguments in self.calls():
            if call.__name__.startswith("is_") or call.__name__ == "deal_text":
                continue
            turned = tuple(tuple(one) if isinstance(one, list) else one for one in arguments)
            self.assertEqual(call(*arguments), call(*turned), call.__name__)

    def test_is_functions_return_flags(self):
        for call, arguments in self.calls():
            if call.__name__.startswith("is_"):
                self.assertIs(bool, call(*arguments).__class__)

    def test_methods_that_return_lists_return_new_ones(self):
        striking, fair, visit = Striking(EVEN, PURSE, WISH), Fair(EVEN), Visit(EVEN, PURSE)
        self.assertEqual(
            {"Web", "Striking", "Fair", "Visit", "Desk"}, {name for _, name in CLASSES},
        )
        moves = visit.finish(WISH)
        moves.append("spoilt")
        self.assertEqual(moves[:-1], [move for move in moves if move != "spoilt"])
        self.assertEqual(visit.depth(), len(moves) - 1)
        deal = list(MOVES)
        fair.deal(PURSE, deal)
        visit.play(deal)
        deal.append("spoilt")
        self.assertEqual(played(EVEN, PURSE, MOVES)[0], fair.now())
        self.assertEqual((0, 1, 2), striking.left())

    def test_objects_keep_copies(self):
        stalls, purse, wish = list(EVEN.stalls), list(PURSE), list(WISH)
        web, striking, visit = Web(3, stalls), Striking(EVEN, purse, wish), Visit(EVEN, purse)
        slants = [striking.slant(ware) for ware in range(3)]
        for row in (stalls, purse, wish):
            row[0] = row[1]
            row.append(None)
        self.assertEqual(EVEN, web)
        self.assertEqual(tuple(PURSE), visit.has())
        self.assertEqual(slants, [striking.copy().slant(ware) for ware in range(3)])

    def test_objects_are_equal_to_nothing_of_another_class(self):
        objects = [EVEN, Striking(EVEN, PURSE, WISH), Fair(EVEN), Visit(EVEN, PURSE), Desk()]
        for one in objects:
            for other in objects + [(3, EVEN.stalls), EVEN.stalls, 3, None, "web", [one]]:
                self.assertEqual(one is other, one == other)
        self.assertEqual(Web(3, list(EVEN.stalls)), EVEN)
        self.assertNotEqual(Web(4, EVEN.stalls), EVEN)
        self.assertNotEqual(Web(3, EVEN.stalls[::-1]), Web(3, ODD.stalls))


class Facts(Case):
    def test_the_first_fact(self):
        answers = []
        for web, purse, wish in cases(290, 150, 6):
            one, other, deal = scales(web, purse, wish), bar(web, purse, wish), deal_for(web, purse, wish)
            answers.append(one is None)
            self.assertEqual(1, [one, other].count(None))
            self.assertEqual(one is None, deal is None)
            if one is None:
                self.assertIs(True, is_bar(web, purse, wish, other))
            else:
                self.assertIs(True, is_scales(web, purse, wish, one))
                self.assertIs(True, is_deal(web, purse, wish, deal))
        self.assertEqual({True, False}, set(answers))

    def test_the_second_fact(self):
        for web, purse, wish in cases(291, 60, 4):
            wanted = scales(web, purse, wish) is not None
            for order in permutations(range(web.wares)):
                self.assertIs(wanted, struck(web, purse, wish, order)[0])

    def test_the_third_fact(self):
        answers = []
        for web in webs(292, 150, 6):
            numbers, ring = fit(web), uneven_ring(web)
            answers.append(ring is None)
            self.assertEqual(1, [numbers, ring].count(None))
            self.assertIs(ring is not None, is_uneven_ring(web, ring))
        self.assertEqual({True, False}, set(answers))

    def test_the_fourth_fact(self):
        for web in webs(293, 100, 5):
            nothing = [for_nothing(web, ware) for ware in range(web.wares)]
            self.assertEqual(fit(web) is not None, set(nothing) == {ZERO})
            for piece in pieces(web):
                for ware in piece:
                    behind = played(web, [ZERO] * web.wares, taking(web, ware))
                    self.assertEqual(nothing[ware], behind[1][ware])
                    self.assertEqual({ZERO}, {for_nothing(behind[0], other) for other in piece})

    def test_the_fifth_fact(self):
        chance = random.Random(294)
        alike = 0
        for web in webs(294, 120, 5, 6):
            ware = chance.randrange(web.wares)
            told = tuple(other for other in range(web.wares) if other != ware)
            if not told:
                continue
            try:
                other_web = merged(web, ware)
            except ValueError:
                continue
            alike += 1
            self.assertEqual(left_table(web, told), left_table(other_web, told))
            self.assertIsNone(parting(web, other_web, told))
            for _ in range(5):
                rows = [[one if at in told else ZERO for at, one in enumerate(random_row(chance, web.wares))]
                        for _ in range(2)]
                met = deal_for(web, *rows) is not None
                self.assertEqual(met, deal_for(other_web, *rows) is not None)
                for at in told:
                    self.assertEqual(brim(web, rows[0], at), brim(other_web, rows[0], at))
        self.assertTrue(alike > 40)

    def test_the_sixth_fact(self):
        answers = []
        for web, purse, wish in cases(295, 200, 5):
            if fit(web) is None:
                continue
            deal = deal_for(web, purse, wish)
            moves = unowed(web, purse, wish)
            answers.append(deal is None)
            self.assertEqual(deal is None, moves is None)
            if moves is not None:
                self.assertIs(True, is_unowed(web, purse, wish, moves))
                self.assertIsNone(owes(web, purse, moves))
                self.assertEqual(len(moves), len({move[0] for move in moves}))
        self.assertEqual({True, False}, set(answers))

    def test_the_seventh_fact(self):
        chance = random.Random(296)
        for web in webs(296, 60, 5):
            if web.wares == 1:
                continue
            ware, other = chance.sample(range(web.wares), 2)
            amounts = [some_number(chance) for _ in range(3)]
            row = [(ware, pair(amount), other) for amount in amounts]
            whole = worth(served(web, [(ware, pair(sum(amounts)), other)], (0,))[0])
            for order in permutations(range(3)):
                self.assertEqual(whole, sum(map(worth, served(web, row, order))))


if __name__ == "__main__":
    unittest.main()
