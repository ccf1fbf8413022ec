"""Points 6.1 and 6.2: worths, drags, the one stall between two wares, trees and two-tree forests."""

import random
import unittest
from fractions import Fraction
from itertools import permutations

from rootstalls.brims import brim
from rootstalls.drags import drag, one_stall, trees, two_trees
from rootstalls.errors import BadWare, NotFit, NotTied
from rootstalls.webs import Web
from tests import oracle
from tests.samples import (
    BARE, EVEN, LARGE, LONE, ODD, ONE, SPLIT, ZERO, Case, fitting_web, pair, some_number, worth, wrong_wares,
)

PAIR = Web(2, [(0, 1, ONE, ONE, ONE)])
ROW = Web(3, [(0, 1, ONE, ONE, ONE), (1, 2, (2, 1), (2, 1), (2, 1))])
# The numbers in fit are 1, 2 and 6, the ties 1 * 2 and 3 * 12.
STEEP = Web(3, [(0, 1, (2, 1), (1, 2), ONE), (2, 1, ONE, (9, 1), (3, 1))])


def fitting(seed, number, most_wares=8):
    """Webs that fit, of one piece and of several."""
    chance = random.Random(seed)
    for _ in range(number):
        wares = chance.randint(2, most_wares)
        yield fitting_web(chance, wares, chance.randint(wares - 1, 16))


def tied(seed, number, most_wares=8):
    """Webs that fit, of one piece."""
    for web in fitting(seed, number, most_wares):
        whole = oracle.joined_all(web)
        if len(whole) == 1:
            yield web


class Drags(Case):
    def test_by_hand(self):
        self.told((2, 3), drag, EVEN, 0, 1)
        self.told(ONE, drag, PAIR, 0, 1)
        self.told(ONE, drag, PAIR, 1, 0)
        self.told((3, 2), drag, ROW, 0, 2)
        self.told((1, 2), drag, ROW, 1, 2)
        self.told((1, 2), drag, STEEP, 0, 1)
        self.told((1, 36), drag, STEEP, 1, 2)
        self.told((19, 36), drag, STEEP, 2, 0)

    def test_stalls_in_a_row_and_side_by_side(self):
        for many in range(1, 8):
            row = Web(8, [(at, at + 1, ONE, ONE, ONE) for at in range(many)])
            self.told((many, 1), drag, row, many, 0)
        for many in range(1, 17):
            self.told((1, many), drag, Web(2, PAIR.stalls * many), 0, 1)

    def test_unlike_pieces(self):
        for call in (drag, one_stall):
            self.told(None, call, BARE, 0, 3)
            self.told(None, call, SPLIT, 0, 1)
            self.told(None, call, SPLIT, 3, 1)
            self.told(None, call, Web(3, PAIR.stalls), 2, 0)
        self.assertIsNotNone(drag(SPLIT, 2, 5))

    def test_the_words(self):
        chance = random.Random(110)
        nones = 0
        for web in fitting(110, 60):
            numbers = oracle.fit_numbers(web)
            one, other = chance.sample(range(web.wares), 2)
            found = drag(web, one, other)
            for _ in range(3):
                amount = some_number(chance)
                purse = [pair(amount) if ware == one else ZERO for ware in range(web.wares)]
                most = worth(brim(web, purse, other))
                if found is None:
                    nones += 1
                    self.assertEqual(0, most)
                else:
                    put, out = amount * numbers[one] ** 2, most * numbers[other] ** 2
                    self.assertEqual(1 / put + worth(found), 1 / out)

    def test_the_drag_by_trees_and_two_tree_forests(self):
        for web in list(tied(111, 60)) + [EVEN, ROW, STEEP, PAIR]:
            for one, other in permutations(range(web.wares), 2):
                wanted = worth(two_trees(web, one, other)) / worth(trees(web))
                self.told(pair(wanted), drag, web, one, other)

    def test_large_numbers(self):
        web = Web(2, [(0, 1, (LARGE, 1), (1, LARGE), ONE)])
        self.told((1, LARGE), drag, web, 0, 1)
        self.told((0, 1, (LARGE, 1), (1, LARGE), ONE), one_stall, web, 0, 1)


class OneStalls(Case):
    def test_by_hand(self):
        self.told((0, 1, (3, 2), (3, 2), (3, 2)), one_stall, EVEN, 0, 1)
        self.told((2, 0, (2, 3), (2, 3), (2, 3)), one_stall, ROW, 2, 0)
        self.told((0, 1, ONE, ONE, ONE), one_stall, PAIR, 0, 1)
        self.told((0, 1, (2, 1), (1, 2), ONE), one_stall, STEEP, 0, 1)
        self.told((1, 0, (1, 2), (2, 1), ONE), one_stall, STEEP, 1, 0)

    def test_it_does_the_same_as_the_web(self):
        chance = random.Random(112)
        for web in fitting(112, 60):
            one, other = chance.sample(range(web.wares), 2)
            stall = one_stall(web, one, other)
            self.assertEqual(drag(web, one, other) is None, stall is None)
            if stall is not None:
                self.told(stall, one_stall, web, one, other)
                self.assertEqual((one, other), stall[:2])
                alone = Web(web.wares, [stall])
                for ware, wanted in [(one, other), (other, one)] * 2:
                    amount = pair(some_number(chance))
                    purse = [amount if at == ware else ZERO for at in range(web.wares)]
                    self.assertEqual(brim(web, purse, wanted), brim(alone, purse, wanted))
                # Its numbers are those of the web: alone it drags as much, seen by them.
                numbers = oracle.fit_numbers(web)
                tie = worth(stall[4]) * numbers[one] * numbers[other]
                self.assertEqual(worth(drag(web, one, other)), 1 / tie)


class Trees(Case):
    def test_by_hand(self):
        self.told((3, 1), trees, EVEN)
        self.told((2, 1), two_trees, EVEN, 0, 1)
        self.told(ONE, trees, LONE)
        self.told(ONE, trees, PAIR)
        self.told(ONE, two_trees, PAIR, 0, 1)
        self.told((2, 1), trees, ROW)
        self.told((2, 1), two_trees, ROW, 0, 1)
        self.told(ONE, two_trees, ROW, 1, 2)
        self.told((3, 1), two_trees, ROW, 2, 0)
        self.told((72, 1), trees, STEEP)
        self.told((36, 1), two_trees, STEEP, 0, 1)
        self.told((16, 1), trees, Web(2, PAIR.stalls * 16))
        self.told(ONE, two_trees, Web(2, PAIR.stalls * 16), 1, 0)

    def test_by_listing_them(self):
        for web in tied(113, 50, 6):
            ties = oracle.ties(web)
            total = sum(
                oracle.product_of(ties[at] for at in indexes)
                for indexes, _ in oracle.forests(web, web.wares - 1)
            )
            self.told(pair(total), trees, web)
            for one, other in permutations(range(web.wares), 2):
                total = sum(
                    oracle.product_of(ties[at] for at in indexes)
                    for indexes, groups in oracle.forests(web, web.wares - 2)
                    if not [group for group in groups if one in group and other in group]
                )
                self.told(pair(total), two_trees, web, one, other)

    def test_eight_wares(self):
        round_web = Web(8, [(at, (at + 1) % 8, ONE, ONE, ONE) for at in range(8)])
        self.told((8, 1), trees, round_web)
        self.told((16, 1), two_trees, round_web, 0, 4)
        self.told((16, 1), two_trees, Web(8, round_web.stalls[::-1]), 4, 0)
        self.told((7, 1), two_trees, round_web, 3, 2)
        twice = Web(8, [stall for stall in round_web.stalls for _ in range(2)])
        self.told((8 * 2 ** 7, 1), trees, twice)


class Wrong(Case):
    def test_webs_have_to_fit(self):
        for call in (drag, one_stall, two_trees):
            self.refused(NotFit, {}, call, ODD, 0, 1)
            self.refused(NotFit, {}, call, ODD, 0, 0)
            for wrong in wrong_wares(3):
                self.refused(NotFit, {}, call, ODD, wrong, wrong)
        self.refused(NotFit, {}, trees, ODD)
        # It fits nowhere and hangs together nowhere: the first one described is due.
        web = Web(4, ODD.stalls)
        self.refused(NotFit, {}, trees, web)
        self.refused(NotFit, {}, two_trees, web, 0, 3)
        self.refused(NotFit, {}, drag, web, 0, 3)
        self.refused(NotFit, {}, one_stall, web, 0, 3)

    def test_webs_of_more_than_one_piece(self):
        for web in (BARE, SPLIT, Web(3, PAIR.stalls), Web(2, [])):
            self.refused(NotTied, {}, trees, web)
            self.refused(NotTied, {}, two_trees, web, 0, 1)
            self.refused(NotTied, {}, two_trees, web, 0, 0)
            self.refused(NotTied, {}, two_trees, web, None, -1)

    def test_wares_are_asked(self):
        for call in (drag, one_stall, two_trees):
            for wrong in wrong_wares(3):
                self.refused(BadWare, {}, call, EVEN, wrong, 1)
                self.refused(BadWare, {}, call, EVEN, 1, wrong)
            for ware in range(3):
                self.refused(BadWare, {}, call, EVEN, ware, ware)
            self.refused(BadWare, {}, call, LONE, 0, 0)
            self.refused(BadWare, {}, call, LONE, 0, 1)


if __name__ == "__main__":
    unittest.main()
