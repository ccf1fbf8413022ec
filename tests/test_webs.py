"""Points 1.2 and 1.3, and what a stall is."""

import random
import unittest
from fractions import Fraction

from rootstalls.errors import BadFraction, BadStall, BadWare, BadWares
from rootstalls.strikings import Striking
from rootstalls.webs import Web, held, neighbours, pieces, root_of, roots
from tests.samples import (
    BARE, EVEN, FULL, LARGE, LARGE_OTHER, LONE, NONE, ODD, ONE, SPLIT, ZERO, Case, cases,
    odd_things, pair, pairs, worth, worths, wrong_integers, wrong_somes, wrong_wares,
)

STALL = (0, 1, ONE, (4, 1), (2, 1))


def wrong_stalls():
    """Things that are no stall of a web of three wares."""
    wrong = odd_things() + [
        0, ONE, list(STALL), STALL[:4], STALL + (ONE,), (0, 0) + STALL[2:], (1, 1) + STALL[2:],
        (0, 3) + STALL[2:], (3, 0) + STALL[2:], (0, -1) + STALL[2:], (-1, 0) + STALL[2:],
        STALL[:4] + ((-2, 1),), STALL[:4] + ((3, 1),), STALL[:4] + ((1, 2),),
        (0, 1, ONE, (2, 1), (2, 1)), (0, 1, (-1, 1), (-4, 1), (2, 1)), (0, 1, ZERO, ONE, ZERO),
        (0, 1, ZERO, ZERO, ZERO), (False, True) + STALL[2:], (0, True) + STALL[2:],
        (0, 1, [1, 1], (4, 1), (2, 1)), (0, 1, ONE, (8, 2), (2, 1)), (0, 1, 1, 4, 2),
    ]
    for thing in wrong_integers():
        wrong += [(thing, 1) + STALL[2:], (0, thing) + STALL[2:]]
    for thing in wrong_somes():
        wrong += [STALL[:2] + (thing,) + STALL[3:], STALL[:3] + (thing, (2, 1)), STALL[:4] + (thing,)]
    return wrong


class Making(Case):
    def test_attributes(self):
        for row in ([], (), [STALL], (STALL, STALL), [STALL] * 16):
            web = Web(2, row)
            self.assertEqual(2, web.wares)
            self.assertEqual(tuple(row), web.stalls)
            self.assertIs(tuple, web.stalls.__class__)

    def test_copies_are_kept(self):
        row = [STALL]
        web = Web(3, row)
        row.append(STALL)
        row[0] = None
        self.assertEqual((STALL,), web.stalls)

    def test_from_1_to_8_wares(self):
        for wares in range(1, 9):
            self.assertEqual(wares, Web(wares, []).wares)
        stall = (7, 0, ONE, (4, 1), (2, 1))
        self.assertEqual((stall,), Web(8, [stall]).stalls)
        for wrong in wrong_integers() + [0, -1, 9, 10 ** 11, -8]:
            self.refused(BadWares, {}, Web, wrong, [STALL])
            self.refused(BadWares, {}, Web, wrong, None)

    def test_at_most_16_stalls(self):
        self.assertEqual(16, len(FULL.stalls))
        self.refused(BadStall, {"index": -1}, Web, 2, [STALL] * 17)
        self.refused(BadStall, {"index": -1}, Web, 2, (STALL,) * 17)
        self.refused(BadStall, {"index": -1}, Web, 2, [None] * 17)

    def test_a_row_is_asked(self):
        for wrong in odd_things():
            if not isinstance(wrong, (list, tuple)):
                self.refused(BadStall, {"index": -1}, Web, 2, wrong)
        self.refused(BadStall, {"index": -1}, Web, 2, {0: STALL})
        self.refused(BadStall, {"index": -1}, Web, 2, iter([STALL]))
        self.refused(BadStall, {"index": -1}, Web, 2, [0] * 99999)

    def test_the_first_that_is_no_stall(self):
        for wrong in wrong_stalls():
            self.refused(BadStall, {"index": 0}, Web, 3, [wrong])
            self.refused(BadStall, {"index": 1}, Web, 3, (STALL, wrong, wrong, STALL))
        self.refused(BadStall, {"index": 15}, Web, 3, [STALL] * 15 + [None])

    def test_one_ware_has_no_stalls(self):
        self.refused(BadStall, {"index": 0}, Web, 1, [STALL])
        self.assertEqual((), Web(1, []).stalls)

    def test_large_numbers(self):
        held_amounts = ((LARGE, LARGE_OTHER), (LARGE, 4 * LARGE_OTHER))
        held_amounts = tuple(pair(worth(one)) for one in held_amounts)
        root = pair(Fraction(LARGE, 2 * LARGE_OTHER))
        web = Web(2, [(0, 1) + held_amounts + (root,)])
        self.assertEqual(held_amounts, held(web))
        self.refused(BadStall, {"index": 0}, Web, 2, [(0, 1) + held_amounts + (ONE,)])


class Likeness(unittest.TestCase):
    def test_webs_are_equal_if_both_are(self):
        self.assertTrue(Web(2, [STALL]) == Web(2, (STALL,)))
        self.assertFalse(Web(2, [STALL]) != Web(2, (STALL,)))
        self.assertFalse(Web(2, [STALL]) == Web(3, [STALL]))
        self.assertFalse(Web(2, [STALL]) == Web(2, [STALL, STALL]))
        self.assertFalse(Web(2, [STALL]) == Web(2, [(1, 0, (4, 1), ONE, (2, 1))]))
        self.assertTrue(Web(2, [STALL]) != Web(2, []))

    def test_nothing_else_is_equal(self):
        for other in odd_things() + [(3, EVEN.stalls), EVEN.stalls, 3]:
            if not isinstance(other, Web):
                self.assertIs(False, EVEN == other)
                self.assertIs(False, other == EVEN)
        self.assertFalse(EVEN == Striking(EVEN, NONE, NONE))


class RootOf(Case):
    def test_roots_that_are_there(self):
        for one, other, root in [
            ((1, 2), (8, 1), (2, 1)), (ONE, ONE, ONE), ((2, 1), (2, 1), (2, 1)),
            ((2, 3), (3, 2), ONE), ((1, 2), (1, 8), (1, 4)), ((12, 1), (1, 3), (2, 1)),
            ((LARGE ** 2, 1), (1, LARGE_OTHER ** 2), pair(Fraction(LARGE, LARGE_OTHER))),
        ]:
            self.told(root, root_of, one, other)

    def test_none(self):
        for one, other in [
            ((2, 1), ONE), ((1, 2), ONE), ((1, 3), (1, 4)), ((4, 1), (1, 3)),
            ((LARGE ** 2 + 1, 1), ONE), (ONE, (1, LARGE ** 2 - 1)), ((3, 1), (1, 4)),
        ]:
            self.told(None, root_of, one, other)
            self.told(None, root_of, other, one)

    def test_like_products(self):
        chance = random.Random(5)
        squares = {Fraction(a, b) ** 2 for a in range(1, 82) for b in range(1, 82)}
        for _ in range(500):
            one, other = [Fraction(chance.randint(1, 9), chance.randint(1, 9)) for _ in range(2)]
            root = root_of(pair(one), pair(other))
            if root is None:
                self.assertNotIn(one * other, squares)
            else:
                self.assertEqual(one * other, worth(root) ** 2)
                self.assertTrue(worth(root) > 0)

    def test_some_amounts_are_asked(self):
        for wrong in wrong_somes():
            self.refused(BadFraction, {"place": 0}, root_of, wrong, ONE)
            self.refused(BadFraction, {"place": 1}, root_of, ONE, wrong)
            self.refused(BadFraction, {"place": 0}, root_of, wrong, wrong)


class Telling(Case):
    def test_held(self):
        self.told(((3, 1), (2, 1), (3, 2)), held, ODD)
        self.told((ZERO,), held, LONE)
        self.told((ZERO,) * 4, held, BARE)
        self.told(
            ((10, 3), (16, 1), (1, 12), ZERO, ONE, (3, 1)), held, SPLIT
        )

    def test_roots(self):
        self.told(((ZERO, ONE, ONE), (ONE, ZERO, ONE), (ONE, ONE, ZERO)), roots, ODD)
        self.told(((ZERO,),), roots, LONE)
        self.told(((ZERO,) * 4,) * 4, roots, BARE)
        rows = roots(SPLIT)
        self.assertEqual((4, 1), rows[4][1])
        self.assertEqual((4, 1), rows[1][4])
        self.assertEqual((3, 1), rows[0][5])
        self.assertEqual((1, 6), rows[2][0])
        self.assertEqual((ZERO,) * 6, rows[3])

    def test_stalls_told_both_ways_add_up(self):
        web = Web(2, [STALL, (1, 0, (9, 1), ONE, (3, 1))])
        self.told(((2, 1), (13, 1)), held, web)
        self.told(((ZERO, (5, 1)), ((5, 1), ZERO)), roots, web)
        self.told((1,), neighbours, web, 0)

    def test_held_and_roots_by_sums(self):
        for web, purse, wish in cases(21, 60, 8):
            stock = [Fraction(0)] * web.wares
            between = [[Fraction(0)] * web.wares for _ in range(web.wares)]
            for one, other, kept, other_kept, root in web.stalls:
                stock[one] += worth(kept)
                stock[other] += worth(other_kept)
                between[one][other] += worth(root)
                between[other][one] += worth(root)
            self.told(pairs(stock), held, web)
            self.told(tuple(pairs(row) for row in between), roots, web)

    def test_neighbours(self):
        self.told((1, 2), neighbours, EVEN, 0)
        self.told((0, 2), neighbours, EVEN, 1)
        self.told((0, 1), neighbours, EVEN, 2)
        self.told((), neighbours, LONE, 0)
        self.told((), neighbours, SPLIT, 3)
        self.told((1,), neighbours, SPLIT, 4)
        self.told((2, 5), neighbours, SPLIT, 0)
        star = Web(8, [(7, ware, ONE, ONE, ONE) for ware in (5, 0, 3, 0)])
        self.told((0, 3, 5), neighbours, star, 7)
        self.told((7,), neighbours, star, 0)

    def test_neighbours_asks_for_a_ware(self):
        for wrong in wrong_wares(3):
            self.refused(BadWare, {}, neighbours, EVEN, wrong)
        self.refused(BadWare, {}, neighbours, LONE, 1)

    def test_pieces(self):
        self.told([(0, 1, 2)], pieces, EVEN)
        self.told([(0,)], pieces, LONE)
        self.told([(0,), (1,), (2,), (3,)], pieces, BARE)
        self.told([(0, 2, 5), (1, 4), (3,)], pieces, SPLIT)
        self.told([tuple(range(8))], pieces, FULL)
        path = Web(8, [(one, other, ONE, ONE, ONE) for one, other in [(6, 7), (1, 0), (5, 6), (0, 5)]])
        self.told([(0, 1, 5, 6, 7), (2,), (3,), (4,)], pieces, path)
        self.told([(0, 7), (1, 6), (2, 5), (3, 4)], pieces, Web(8, [
            (ware, 7 - ware, ONE, ONE, ONE) for ware in (2, 3, 0, 1)
        ]))

    def test_pieces_by_ways(self):
        for web, purse, wish in cases(22, 80, 8):
            reach = {ware: {ware} for ware in range(web.wares)}
            for _ in range(web.wares):
                for ware in reach:
                    for near in list(reach[ware]):
                        reach[ware] |= set(neighbours(web, near))
            wanted = sorted(set(tuple(sorted(wares)) for wares in reach.values()))
            self.told(wanted, pieces, web)

    def test_webs_stay(self):
        before = (EVEN.wares, EVEN.stalls)
        for call in (held, roots, pieces):
            call(EVEN)
        self.assertEqual(before, (EVEN.wares, EVEN.stalls))
        self.assertEqual([Fraction(2)] * 3, worths(held(EVEN)))


if __name__ == "__main__":
    unittest.main()
