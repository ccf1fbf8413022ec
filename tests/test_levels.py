"""Points 10.1 and 10.2: rates, levelling the stalls by them, and webs together."""

import random
import unittest
from fractions import Fraction

from rootstalls.brims import brim
from rootstalls.deals import change_of, led, played
from rootstalls.errors import BadRates, OtherWares, TooMany
from rootstalls.levels import least_worth, levelled, takings, together, worth_of
from rootstalls.webs import Web
from rootstalls.wishes import is_bar
from tests.samples import (
    BARE, EVEN, FULL, LARGE, LONE, ODD, ONE, SPLIT, ZERO, Case, pair, pairs, random_row,
    some_number, webs, worth, worths, wrong_somes_in_tuples,
)

STEEP = Web(2, [(0, 1, ONE, (4, 1), (2, 1))])
ALL = (least_worth, levelled, takings, worth_of)


def random_rates(chance, wares):
    return tuple(pair(some_number(chance)) for _ in range(wares))


def rated(seed, number, most_wares=6):
    """Webs with rates."""
    chance = random.Random(seed)
    for web in webs(seed, number, most_wares):
        yield web, random_rates(chance, web.wares)


def worth_of_row(amounts, rates):
    """What a row of amounts is worth, with Python's fractions."""
    return sum((one * rate ** 2 for one, rate in zip(worths(amounts), worths(rates))), Fraction(0))


def stall_worth(stall, rates):
    """What one stall is worth."""
    one, other, held, other_held, _ = stall
    return worth(held) * worth(rates[one]) ** 2 + worth(other_held) * worth(rates[other]) ** 2


class Levels(Case):
    def test_by_hand(self):
        self.told((4, 1), least_worth, STEEP, (ONE, ONE))
        self.told([ONE], takings, STEEP, (ONE, ONE))
        self.told((5, 1), worth_of, STEEP, (ONE, ONE))
        self.told([(0, 0, ONE)], levelled, STEEP, (ONE, ONE))
        # By twice the rate of the first ware the stall is level already.
        self.told((8, 1), least_worth, STEEP, ((2, 1), ONE))
        self.told((8, 1), worth_of, STEEP, ((2, 1), ONE))
        self.told([ZERO], takings, STEEP, ((2, 1), ONE))
        self.told([], levelled, STEEP, ((2, 1), ONE))
        self.told((2, 1), least_worth, STEEP, (ONE, (1, 2)))
        self.told([(0, 1, (2, 1))], levelled, STEEP, ((3, 1), ONE))

    def test_worths_go_by_the_square_of_a_rate(self):
        self.told((19, 4), worth_of, EVEN, ((3, 2), (1, 4), (1, 4)))
        self.told((82, 1), worth_of, STEEP, ((9, 1), (1, 2)))
        self.told((4, 1), worth_of, Web(3, EVEN.stalls[:2]), (ONE, ONE, ONE))

    def test_some_stalls_are_level_already(self):
        self.told([(2, 2, (1, 2))], levelled, ODD, (ONE, ONE, ONE))
        self.told([ZERO, ZERO, (1, 2)], takings, ODD, (ONE, ONE, ONE))
        self.told((13, 2), worth_of, ODD, (ONE, ONE, ONE))
        self.told((6, 1), least_worth, ODD, (ONE, ONE, ONE))

    def test_no_stalls(self):
        for web in (LONE, BARE):
            rates = ((7, 3),) * web.wares
            self.told(ZERO, least_worth, web, rates)
            self.told(ZERO, worth_of, web, rates)
            self.told([], levelled, web, rates)
            self.told([], takings, web, rates)

    def test_large_numbers(self):
        rates = ((LARGE, 1), (1, LARGE))
        self.told((4, 1), least_worth, STEEP, rates)
        wanted = LARGE ** 2 + Fraction(4, LARGE ** 2)
        self.told(pair(wanted), worth_of, STEEP, rates)
        self.told([pair(wanted - 4)], takings, STEEP, rates)

    def test_what_levelling_leaves_is_worth_the_least(self):
        for web, rates in list(rated(200, 120)) + [(FULL, pairs(range(1, 9))), (SPLIT, pairs(range(2, 8)))]:
            moves = levelled(web, rates)
            behind = played(web, [ZERO] * web.wares, moves)[0]
            self.assertEqual(least_worth(web, rates), worth_of(behind, rates))
            self.assertEqual([], levelled(behind, rates))
            self.assertEqual([ZERO] * len(web.stalls), takings(behind, rates))
            self.told(moves, levelled, web, rates)

    def test_each_stall_by_itself(self):
        for web, rates in rated(201, 80):
            found = takings(web, rates)
            self.assertEqual(len(web.stalls), len(found))
            least = Fraction(0)
            for stall, taking in zip(web.stalls, found):
                one, other, held, _, root = stall
                lowest = 2 * worth(root) * worth(rates[one]) * worth(rates[other])
                self.assertEqual(stall_worth(stall, rates) - lowest, worth(taking))
                least += lowest
            self.told(pair(least), least_worth, web, rates)
            self.assertEqual(sum(stall_worth(stall, rates) for stall in web.stalls), worth(worth_of(web, rates)))
            changed = [index for index, taking in enumerate(found) if taking != ZERO]
            self.assertEqual(changed, [move[0] for move in levelled(web, rates)])

    def test_takings_are_what_levelling_brings(self):
        for web, rates in rated(202, 80):
            behind = played(web, [ZERO] * web.wares, levelled(web, rates))[0]
            brought = worth_of_row(change_of(web, behind), rates)
            self.assertEqual(brought, sum(worths(takings(web, rates))))
            self.assertEqual(worth(worth_of(web, rates)) - worth(least_worth(web, rates)), brought)

    def test_no_other_web_is_worth_less(self):
        chance = random.Random(203)
        for web, rates in rated(203, 60):
            least = worth(least_worth(web, rates))
            self.assertTrue(worth(worth_of(web, rates)) >= least)
            for index in range(len(web.stalls)):
                web = led(web, index, pair(some_number(chance)))
                self.assertTrue(worth(worth_of(web, rates)) >= least)

    def test_worth_and_least_worth_are_both_sums_of_a_bar(self):
        for web, rates in rated(204, 60):
            nothing = [ZERO] * web.wares
            below = worth(worth_of(web, rates)) < worth(least_worth(web, rates))
            self.assertEqual(below, is_bar(web, nothing, nothing, rates))
            self.assertFalse(below)

    def test_rates_are_asked(self):
        for wrong in wrong_somes_in_tuples(3):
            for call in ALL:
                self.refused(BadRates, {}, call, EVEN, wrong)
        for wrong in ((), ((1, 1), (1, 1)), ((0, 1),), ((-1, 1),), [ONE]):
            for call in ALL:
                self.refused(BadRates, {}, call, LONE, wrong)


class Together(Case):
    def test_by_hand(self):
        self.told(Web(3, EVEN.stalls + ODD.stalls), together, EVEN, ODD)
        self.told(Web(3, ODD.stalls + EVEN.stalls), together, ODD, EVEN)
        self.told(LONE, together, LONE, LONE)
        self.told(EVEN, together, EVEN, Web(3, []))
        self.told(EVEN, together, Web(3, []), EVEN)

    def test_16_stalls_and_17(self):
        stall = FULL.stalls[0]
        fifteen, one = Web(8, FULL.stalls[:15]), Web(8, [stall])
        self.told(Web(8, FULL.stalls[:15] + (stall,)), together, fifteen, one)
        self.told(FULL, together, FULL, Web(8, []))
        self.told(Web(8, FULL.stalls[8:] + FULL.stalls[:8]), together, Web(8, FULL.stalls[8:]), Web(8, FULL.stalls[:8]))
        self.refused(TooMany, {"limit": 16}, together, FULL, one)
        self.refused(TooMany, {"limit": 16}, together, one, FULL)
        self.refused(TooMany, {"limit": 16}, together, FULL, FULL)

    def test_unlike_numbers_of_wares(self):
        self.refused(OtherWares, {}, together, EVEN, BARE)
        self.refused(OtherWares, {}, together, LONE, EVEN)
        # Wares are asked ahead of the number of the stalls.
        many = Web(7, [(0, 1, ONE, ONE, ONE)] * 16)
        self.refused(OtherWares, {}, together, FULL, many)

    def test_brims_are_at_least_those_of_each(self):
        chance = random.Random(205)
        for web in webs(205, 60, 5, 8):
            chance_web = [other for other in webs(chance.random(), 20, 5, 8) if other.wares == web.wares]
            for other in chance_web[:2]:
                both = together(web, other)
                purse = random_row(chance, web.wares)
                for ware in range(web.wares):
                    most = worth(brim(both, purse, ware))
                    self.assertTrue(most >= worth(brim(web, purse, ware)))
                    self.assertTrue(most >= worth(brim(other, purse, ware)))
                self.assertEqual(web.stalls + other.stalls, both.stalls)

    def test_takings_stand_side_by_side(self):
        rates = (ONE, (2, 1), (3, 1))
        self.assertEqual(takings(EVEN, rates) + takings(ODD, rates), takings(together(EVEN, ODD), rates))
        self.told((0, 1), worth_of, together(Web(3, []), Web(3, ())), rates)


if __name__ == "__main__":
    unittest.main()
