"""Point 3.5: the least wares that keep a wish off, the fewest stalls that meet it, the needed ones."""

import random
import unittest
from fractions import Fraction
from itertools import combinations

from rootstalls.deals import is_deal
from rootstalls.errors import BadPurse, BadWish
from rootstalls.fewest import fewest_stalls, least_wares, needed
from rootstalls.webs import Web
from rootstalls.wishes import deal_for, is_bar, scales
from tests import oracle
from tests.samples import (
    BARE, EVEN, FULL, LARGE, LONE, NONE, ODD, ONE, SPLIT, ZERO, Case, cases, pair, random_row, webs,
    worth, wrong_rows,
)

PAIR = Web(2, [(0, 1, ONE, ONE, ONE)])
ROW = Web(4, [(0, 1, ONE, ONE, ONE), (1, 2, ONE, ONE, ONE), (2, 3, ONE, ONE, ONE)])
CALLS = (least_wares, fewest_stalls, needed)


def part_of(web, indexes):
    return Web(web.wares, [web.stalls[index] for index in indexes])


def met(web, purse, wish):
    return oracle.can_all_be_struck(oracle.matrix(web, purse, wish))


def hard_cases(seed, number, most_wares, most_stalls):
    """Cases some of whose wishes are met by dealing alone, and some missed by several wares at once."""
    chance = random.Random(seed)
    for web in webs(seed, number, most_wares, most_stalls):
        purse = random_row(chance, web.wares)
        wish = [pair(worth(one) * Fraction(chance.randint(1, 6), 8)) for one in purse]
        at, other = chance.randrange(web.wares), chance.randrange(web.wares)
        wish[at], wish[other] = wish[other], wish[at]
        yield web, purse, wish


class LeastWares(Case):
    def test_by_hand(self):
        self.told(None, least_wares, EVEN, NONE, NONE)
        self.told((1,), least_wares, EVEN, NONE, (ZERO, (3, 1), ZERO))
        # A slant of 0 keeps the wish off only beside a ware to which it is tied.
        self.told((0, 1), least_wares, EVEN, NONE, (ZERO, (2, 1), ZERO))
        self.told((0, 1, 2), least_wares, EVEN, NONE, (ZERO, ZERO, (1, LARGE)))
        self.told((1, 2), least_wares, EVEN, NONE, (ZERO, ONE, (11, 10)))
        self.told((0, 1), least_wares, PAIR, [ONE, ZERO], [ZERO, pair(Fraction(LARGE + 1, 2 * LARGE))])
        self.told(None, least_wares, PAIR, [ONE, ZERO], (ZERO, (1, 2)))

    def test_the_least_of_several(self):
        self.told((1,), least_wares, BARE, [ZERO] * 4, [ZERO, ONE, ZERO, ONE])
        self.told((2,), least_wares, ROW, [ZERO] * 4, [ZERO, ONE, (3, 1), (3, 1)])
        self.told((0, 1), least_wares, ROW, [ZERO] * 4, [(1, 2), (3, 4), (3, 4), (1, 2)])
        self.told((1, 2), least_wares, ROW, [ZERO] * 4, [ZERO, (1, 2), (3, 2), ZERO])

    def test_one_and_eight_wares(self):
        self.told(None, least_wares, LONE, [ONE], [ONE])
        self.told((0,), least_wares, LONE, [ONE], [(2, 1)])
        self.told((7,), least_wares, Web(8, []), [ONE] * 8, [ONE] * 7 + [(2, 1)])
        round_web = Web(8, [(at, (at + 1) % 8, ONE, ONE, ONE) for at in range(8)])
        self.told(tuple(range(8)), least_wares, round_web, [ZERO] * 8, [ZERO] * 7 + [(1, LARGE)])
        self.told(None, least_wares, FULL, [ZERO] * 8, [ZERO] * 8)

    def test_by_trying_all_parts(self):
        sizes = []
        for web, purse, wish in list(cases(70, 150)) + list(hard_cases(71, 150, 5, 10)):
            rows = oracle.matrix(web, purse, wish)
            wrong = [part for part in oracle.parts(range(web.wares))
                     if not oracle.can_all_be_struck([[rows[u][v] for v in part] for u in part])]
            wanted = min(wrong, key=lambda part: (len(part), part)) if wrong else None
            self.told(wanted, least_wares, web, tuple(purse), wish)
            self.assertEqual(wanted is None, scales(web, purse, wish) is not None)
            sizes.append(0 if wanted is None else len(wanted))
        self.assertTrue(all(sizes.count(size) >= 5 for size in range(4)), sizes)

    def test_a_bar_of_these_wares_alone(self):
        some = 0
        for web, purse, wish in hard_cases(72, 150, 5, 10):
            wares = least_wares(web, purse, wish)
            if wares is not None and len(wares) == 1:
                some += 1
                amounts = [ZERO] * web.wares
                amounts[wares[0]] = ONE
                self.assertIs(True, is_bar(web, purse, wish, tuple(amounts)))
        self.assertTrue(some > 10)


class FewestStalls(Case):
    def test_by_hand(self):
        purse = (ONE, ZERO, ZERO)
        self.told((), fewest_stalls, EVEN, purse, purse)
        self.told((0,), fewest_stalls, EVEN, purse, (ZERO, (1, 2), ZERO))
        self.told((2,), fewest_stalls, EVEN, purse, (ZERO, ZERO, (1, 2)))
        self.told((0, 1, 2), fewest_stalls, EVEN, purse, (ZERO, (3, 5), ZERO))
        self.told(None, fewest_stalls, EVEN, purse, (ZERO, (3, 4), ZERO))
        self.told((), fewest_stalls, EVEN, NONE, NONE)
        self.told((0, 1, 2), fewest_stalls, ODD, NONE, ((1, 4), ZERO, ZERO))

    def test_the_least_of_several(self):
        twice = Web(2, PAIR.stalls * 8)
        self.told((0,), fewest_stalls, twice, (ONE, ZERO), (ZERO, (1, 2)))
        self.told((0, 1), fewest_stalls, twice, (ONE, ZERO), (ZERO, (2, 3)))
        self.told(tuple(range(8)), fewest_stalls, twice, (ONE, ZERO), (ZERO, (8, 9)))
        self.told(None, fewest_stalls, twice, (ONE, ZERO), (ZERO, ONE))
        # Stalls 1 and 2 are alike; 0 is needed besides, and 3 is of no use.
        web = Web(4, [(1, 2, ONE, ONE, ONE), (0, 1, ONE, ONE, ONE), (0, 1, ONE, ONE, ONE),
                      (0, 3, ONE, ONE, ONE)])
        self.told((0, 1), fewest_stalls, web, (ONE, ZERO, ZERO, ZERO), (ZERO, ZERO, (1, 3), ZERO))
        self.told((0,), needed, web, (ONE, ZERO, ZERO, ZERO), (ZERO, ZERO, (1, 3), ZERO))
        web = Web(4, web.stalls[::-1])
        self.told((1, 3), fewest_stalls, web, (ONE, ZERO, ZERO, ZERO), (ZERO, ZERO, (1, 3), ZERO))

    def test_0_stalls(self):
        self.told((), fewest_stalls, LONE, [ONE], [ONE])
        self.told(None, fewest_stalls, LONE, [ONE], [(2, 1)])
        self.told((), fewest_stalls, BARE, [ONE] * 4, [ZERO, ONE, ZERO, ONE])

    def test_by_trying_all_parts(self):
        sizes = []
        for web, purse, wish in list(cases(73, 80)) + list(hard_cases(74, 120, 5, 6)):
            if len(web.stalls) <= 6:
                good = [part for many in range(len(web.stalls) + 1)
                        for part in combinations(range(len(web.stalls)), many)
                        if met(part_of(web, part), purse, wish)]
                wanted = min(good, key=lambda part: (len(part), part)) if good else None
                self.told(wanted, fewest_stalls, web, purse, tuple(wish))
                sizes.append(-1 if wanted is None else len(wanted))
        self.assertTrue(all(sizes.count(size) >= 4 for size in range(-1, 3)), sizes)

    def test_a_deal_of_these_alone_meets_the_wish(self):
        for web, purse, wish in hard_cases(75, 60, 5, 6):
            indexes = fewest_stalls(web, purse, wish)
            if indexes is not None:
                deal = deal_for(part_of(web, indexes), purse, wish)
                moves = [(indexes[index], ware, amount) for index, ware, amount in deal]
                self.assertIs(True, is_deal(web, purse, wish, moves))


class Needed(Case):
    def test_by_hand(self):
        purse = (ONE, ZERO, ZERO)
        self.told((), needed, EVEN, purse, purse)
        self.told((0,), needed, EVEN, purse, (ZERO, (1, 2), ZERO))
        self.told((), needed, EVEN, purse, (ZERO, (1, 3), ZERO))
        self.told((0, 1, 2), needed, EVEN, purse, (ZERO, (3, 5), ZERO))
        self.told(None, needed, EVEN, purse, (ZERO, (3, 4), ZERO))
        self.told((), needed, LONE, [ONE], [ONE])
        self.told(None, needed, LONE, [ONE], [(2, 1)])
        self.told((), needed, SPLIT, [ZERO] * 6, [ZERO] * 6)

    def test_16_stalls(self):
        web = Web(2, PAIR.stalls * 16)
        self.told((), needed, web, (ONE, ZERO), (ZERO, (15, 16)))
        self.told(tuple(range(16)), needed, web, (ONE, ZERO), (ZERO, (16, 17)))

    def test_by_leaving_each_out(self):
        sizes = []
        for web, purse, wish in list(cases(76, 100)) + list(hard_cases(77, 120, 5, 8)):
            wanted = None
            if met(web, purse, wish):
                indexes = range(len(web.stalls))
                wanted = tuple(
                    index for index in indexes
                    if not met(part_of(web, [one for one in indexes if one != index]), purse, wish)
                )
            self.told(wanted, needed, web, purse, wish)
            sizes.append(-1 if wanted is None else len(wanted))
        self.assertTrue(all(sizes.count(size) >= 3 for size in range(-1, 3)), sizes)


class Wrong(Case):
    def test_purses_and_wishes_are_asked(self):
        for call in CALLS:
            for wrong in wrong_rows(3):
                self.refused(BadPurse, {}, call, EVEN, wrong, NONE)
                self.refused(BadPurse, {}, call, EVEN, wrong, None)
                self.refused(BadWish, {}, call, EVEN, NONE, wrong)
            self.refused(BadPurse, {}, call, LONE, [], [])
            self.refused(BadWish, {}, call, LONE, [ZERO], [ZERO, ZERO])


if __name__ == "__main__":
    unittest.main()
