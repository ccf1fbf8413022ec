"""Point 3.3: the table, to strike a ware, the wrong sign, struck, and the second fact."""

import unittest
from itertools import permutations

from rootstalls.errors import BadOrder, BadPurse, BadWish
from rootstalls.striking import struck
from rootstalls.webs import Web
from rootstalls.wishes import scales
from tests import oracle
from tests.samples import (
    BARE, EVEN, FULL, LARGE, LONE, NONE, ODD, ONE, SPLIT, ZERO, Case, cases, pair, wrong_orders,
    wrong_rows,
)

PAIR = Web(2, [(0, 1, ONE, ONE, ONE)])


class Struck(Case):
    def test_slants_when_they_were_struck(self):
        self.told((True, [(2, 1), (3, 2), ZERO]), struck, EVEN, NONE, NONE, (0, 1, 2))
        self.told((True, [(2, 1), (3, 2), ZERO]), struck, EVEN, NONE, list(NONE), (2, 0, 1))
        self.told((True, [(3, 1), (5, 3), (1, 10)]), struck, ODD, NONE, NONE, (0, 1, 2))
        self.told((True, [(3, 2), (4, 3), (1, 4)]), struck, ODD, NONE, NONE, (2, 1, 0))

    def test_wares_without_stalls(self):
        self.told((True, [ZERO]), struck, LONE, [ZERO], [ZERO], (0,))
        self.told((True, [(1, 2)]), struck, LONE, [ONE], [(1, 2)], (0,))
        self.told((False, [(-1, 2)]), struck, LONE, [(1, 2)], [ONE], (0,))
        self.told((False, [(-1, LARGE)]), struck, LONE, [ZERO], [(1, LARGE)], (0,))
        self.told((True, [ZERO] * 4), struck, BARE, [ONE] * 4, [ONE] * 4, (3, 1, 0, 2))
        wish = [ONE, ONE, (2, 1), ONE]
        self.told((False, [ZERO, ZERO, (-1, 1)]), struck, BARE, [ONE] * 4, wish, (3, 1, 2, 0))

    def test_a_slant_of_0(self):
        # Tied it is wrong; behind the strike of the other ware it is tied no more.
        wish = (ONE, ZERO)
        self.told((False, [ZERO]), struck, PAIR, [ZERO, ZERO], wish, (0, 1))
        self.told((False, [ONE, (-1, 1)]), struck, PAIR, [ZERO, ZERO], wish, (1, 0))
        self.told((True, [ONE, ZERO]), struck, PAIR, [ZERO, ZERO], [ZERO, ZERO], (0, 1))
        self.told((True, [ONE, ZERO]), struck, PAIR, [ZERO, ZERO], [ZERO, ZERO], (1, 0))
        self.told((False, [ZERO]), struck, PAIR, [ZERO, (9, 1)], wish, (0, 1))

    def test_just_met_and_missed_by_a_little(self):
        purse = (ONE, ZERO)
        least = pair(0)
        self.told((True, [(2, 1), least]), struck, PAIR, purse, [ZERO, (1, 2)], (0, 1))
        missed = pair(oracle.Fraction(LARGE + 1, 2 * LARGE))
        self.told(
            (False, [(2, 1), (-1, 2 * LARGE)]), struck, PAIR, purse, [ZERO, missed], (0, 1)
        )

    def test_8_wares_and_16_stalls(self):
        order = (7, 0, 6, 1, 5, 2, 4, 3)
        flag, slants = struck(FULL, [ZERO] * 8, [ZERO] * 8, order)
        self.assertIs(True, flag)
        rows = oracle.matrix(FULL, [ZERO] * 8, [ZERO] * 8)
        self.assertEqual([pair(slant) for slant in oracle.behind(rows, order)[1]], slants)
        everything = [pair(left) for left in oracle.stay(FULL, [ZERO] * 8, [ZERO] * 8)]
        self.told((False, [ZERO]), struck, FULL, [ZERO] * 8, everything, order)

    def test_every_order(self):
        for web, purse, wish in cases(41, 60, 4):
            rows = oracle.matrix(web, purse, wish)
            can = oracle.can_all_be_struck(rows)
            for order in permutations(range(web.wares)):
                left, slants = oracle.behind(rows, order)
                wanted = (can, [pair(slant) for slant in slants])
                self.assertEqual(can, left is not None)
                self.told(wanted, struck, web, purse, wish, order)
            self.assertEqual(can, scales(web, purse, wish) is not None)

    def test_flags_are_both_common(self):
        flags = [
            struck(web, purse, wish, tuple(range(web.wares)))[0]
            for web, purse, wish in cases(41, 60, 4)
        ]
        self.assertTrue(15 < flags.count(True) < 45)

    def test_purses_and_wishes_are_asked(self):
        for wrong in wrong_rows(3):
            self.refused(BadPurse, {}, struck, EVEN, wrong, NONE, (0, 1, 2))
            self.refused(BadPurse, {}, struck, EVEN, wrong, None, None)
            self.refused(BadWish, {}, struck, EVEN, NONE, wrong, (0, 1, 2))
            self.refused(BadWish, {}, struck, EVEN, NONE, wrong, None)

    def test_orders_are_asked(self):
        for thing in wrong_orders():
            self.refused(BadOrder, {}, struck, EVEN, NONE, NONE, thing)
        self.refused(BadOrder, {}, struck, LONE, [ZERO], [ZERO], ())
        self.refused(BadOrder, {}, struck, LONE, [ZERO], [ZERO], (False,))
        self.refused(BadOrder, {}, struck, SPLIT, [ZERO] * 6, [ZERO] * 6, (0, 1, 2, 3, 4))


if __name__ == "__main__":
    unittest.main()
