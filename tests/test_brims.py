"""Point 3.4: brims, the least purse, the sums of a bar, the rule between two wares."""

import random
import unittest
from fractions import Fraction

from rootstalls.brims import brim, brim_deal, least_more, rule, sides
from rootstalls.deals import is_deal, played
from rootstalls.errors import BadBar, BadPurse, BadWare, BadWish
from rootstalls.webs import Web, pieces
from rootstalls.wishes import is_bar, scales
from tests import oracle
from tests.samples import (
    BARE, EVEN, FULL, LARGE, LONE, NONE, ODD, ONE, SPLIT, ZERO, Case, cases, pair, pairs,
    some_number, worth, worths, wrong_rows, wrong_tuples, wrong_wares,
)

PAIR = Web(2, [(0, 1, ONE, ONE, ONE)])


def wish_of(web, ware, amount):
    return [amount if at == ware else ZERO for at in range(web.wares)]


class Brims(Case):
    def test_by_hand(self):
        self.told((3, 5), brim, EVEN, (ONE, ZERO, ZERO), 1)
        self.told((1, 2), brim, PAIR, (ONE, ZERO), 1)
        self.told(ONE, brim, PAIR, [ONE, ZERO], 0)
        for ware, most in enumerate([(1, 4), (1, 7), (1, 10)]):
            self.told(most, brim, ODD, NONE, ware)
            self.told(ZERO, brim, EVEN, NONE, ware)

    def test_wares_without_stalls(self):
        self.told(ZERO, brim, LONE, [ZERO], 0)
        self.told((LARGE, 2), brim, LONE, [(LARGE, 2)], 0)
        self.told((5, 1), brim, SPLIT, [(7, 1)] * 3 + [(5, 1)] + [(7, 1)] * 2, 3)

    def test_by_determinants(self):
        for web, purse, wish in cases(61, 150):
            rows = oracle.matrix(web, purse, [ZERO] * web.wares)
            for ware in range(web.wares):
                most = pair(-oracle.more_needed(rows, ware))
                self.told(most, brim, web, purse, ware)

    def test_more_is_not_to_be_had(self):
        for web, purse, wish in list(cases(62, 60, 8)) + [(FULL, [ONE] * 8, None)]:
            for ware in range(web.wares):
                most = brim(web, purse, ware)
                more = pair(worth(most) + Fraction(1, LARGE))
                self.assertIsNotNone(scales(web, purse, wish_of(web, ware, most)))
                self.assertIsNone(scales(web, purse, wish_of(web, ware, more)))

    def test_deals_bring_it_and_leave_other_pieces(self):
        webs = list(cases(63, 100, 8)) + [
            (FULL, [ONE] * 8, None), (SPLIT, [ONE] * 6, None), (LONE, [ONE], None),
            (BARE, [ONE] * 4, None), (ODD, NONE, None), (SPLIT, [ZERO] * 6, None),
        ]
        for web, purse, wish in webs:
            for ware in range(web.wares):
                deal = brim_deal(web, purse, ware)
                most = brim(web, purse, ware)
                self.assertIs(True, is_deal(web, purse, wish_of(web, ware, most), deal))
                self.assertEqual(most, played(web, purse, deal)[1][ware])
                self.assertTrue(len(deal) <= len(web.stalls))
                piece = [wares for wares in pieces(web) if ware in wares][0]
                for index, _, _ in deal:
                    self.assertIn(web.stalls[index][0], piece)
                self.told(deal, brim_deal, web, tuple(purse), ware)

    def test_other_pieces_that_have_something_for_nothing(self):
        both = Web(6, ODD.stalls + tuple((u + 3, v + 3, a, b, r) for u, v, a, b, r in ODD.stalls))
        self.told((1, 4), brim, both, [ZERO] * 6, 3)
        deal = brim_deal(both, [ZERO] * 6, 3)
        self.assertEqual([3, 4, 5], [move[0] for move in deal])
        self.assertEqual(both.stalls[:3], played(both, [ZERO] * 6, deal)[0].stalls[:3])

    def test_large_numbers(self):
        self.told(pair(Fraction(LARGE, LARGE + 1)), brim, PAIR, ((LARGE, 1), ZERO), 1)
        self.told([(0, 0, (LARGE, 1))], brim_deal, PAIR, ((LARGE, 1), ZERO), 1)

    def test_purses_and_wares_are_asked(self):
        for call in (brim, brim_deal):
            for wrong in wrong_rows(3):
                self.refused(BadPurse, {}, call, EVEN, wrong, 0)
                self.refused(BadPurse, {}, call, EVEN, wrong, None)
            for wrong in wrong_wares(3):
                self.refused(BadWare, {}, call, EVEN, NONE, wrong)


class LeastMore(Case):
    def test_by_hand(self):
        self.told(ZERO, least_more, PAIR, (ONE, ZERO), (ZERO, (1, 2)), 0)
        self.told(ONE, least_more, PAIR, (ZERO, ZERO), (ZERO, (1, 2)), 0)
        self.told((1, 2), least_more, PAIR, (ZERO, ZERO), (ZERO, (1, 2)), 1)
        self.told(None, least_more, PAIR, (ZERO, ZERO), (ZERO, ONE), 0)
        large = (ZERO, pair(Fraction(LARGE, LARGE + 1)))
        self.told((LARGE, 1), least_more, PAIR, (ZERO, ZERO), large, 0)
        self.told(ZERO, least_more, EVEN, NONE, NONE, 2)
        self.told(ZERO, least_more, ODD, NONE, (ZERO, (1, 7), ZERO), 1)
        missed = (ZERO, pair(Fraction(1, 7) + Fraction(1, LARGE)), ZERO)
        self.told((1, LARGE), least_more, ODD, NONE, missed, 1)

    def test_wares_without_stalls(self):
        self.told((2, 1), least_more, LONE, [ONE], [(3, 1)], 0)
        self.told(ZERO, least_more, LONE, [ONE], [ONE], 0)
        self.told(None, least_more, BARE, [ZERO] * 4, [ONE, ZERO, ONE, ZERO], 0)
        self.told(ONE, least_more, BARE, [ZERO] * 4, [ONE, ZERO, ZERO, ZERO], 0)
        self.told(None, least_more, SPLIT, [ZERO] * 6, [ZERO] * 3 + [ONE] + [ZERO] * 2, 0)

    def test_by_determinants(self):
        answers = []
        for web, purse, wish in cases(64, 250, 4):
            rows = oracle.matrix(web, purse, wish)
            for ware in range(web.wares):
                more = oracle.more_needed(rows, ware)
                wanted = None if more is None else pair(max(more, 0))
                self.told(wanted, least_more, web, purse, wish, ware)
                answers.append(wanted)
        zeros = answers.count(ZERO)
        nones = answers.count(None)
        self.assertTrue(min(zeros, nones, len(answers) - zeros - nones) > 50)

    def test_it_is_the_least(self):
        for web, purse, wish in cases(65, 60, 8):
            for ware in range(web.wares):
                more = least_more(web, purse, wish, ware)
                if more is not None and more != ZERO:
                    for change, met in [(0, True), (Fraction(-1, LARGE), False)]:
                        richer = worths(purse)
                        richer[ware] += worth(more) + change
                        self.assertEqual(met, scales(web, pairs(richer), wish) is not None)

    def test_wrong_ones(self):
        for wrong in wrong_rows(3):
            self.refused(BadPurse, {}, least_more, EVEN, wrong, NONE, 0)
            self.refused(BadPurse, {}, least_more, EVEN, wrong, None, None)
            self.refused(BadWish, {}, least_more, EVEN, NONE, wrong, 0)
            self.refused(BadWish, {}, least_more, EVEN, NONE, wrong, None)
        for wrong in wrong_wares(3):
            self.refused(BadWare, {}, least_more, EVEN, NONE, NONE, wrong)


class Sides(Case):
    def test_by_hand(self):
        twice = Web(2, PAIR.stalls * 2)
        self.told(((2, 1), (2, 1)), sides, PAIR, (ZERO, ZERO), (ZERO, ZERO), (ONE, ONE))
        self.told(((6, 1), (4, 1)), sides, PAIR, (ONE, ZERO), (ZERO, ZERO), (ONE, (2, 1)))
        self.told(((-1, 1), ZERO), sides, LONE, [ZERO], [ONE], (ONE,))
        self.told(((12, 1), ZERO), sides, twice, [ONE, ONE], [ONE, ZERO], (ZERO, (2, 1)))
        self.told(((16, 1), (16, 1)), sides, twice, [ZERO] * 2, [ZERO] * 2, ((2, 1), (2, 1)))

    def test_0_all_over(self):
        self.told((ZERO, ZERO), sides, EVEN, (ONE,) * 3, NONE, NONE)
        self.told((ZERO, ZERO), sides, LONE, [ZERO], [ONE], (ZERO,))

    def test_by_words(self):
        for at, (web, purse, wish) in enumerate(cases(66, 150, 8)):
            amounts = [Fraction((at + 2 * ware) % 5, 1 + ware) for ware in range(web.wares)]
            stay = oracle.stay(web, purse, wish)
            left = sum(a * b * b for a, b in zip(stay, amounts))
            right = Fraction(0)
            for one, other, _, _, root in web.stalls:
                right += 2 * worth(root) * amounts[one] * amounts[other]
            self.told((pair(left), pair(right)), sides, web, purse, wish, pairs(amounts))
            self.assertEqual(left < right, is_bar(web, purse, wish, pairs(amounts)))

    def test_wrong_ones(self):
        for wrong in wrong_rows(3):
            self.refused(BadPurse, {}, sides, EVEN, wrong, NONE, NONE)
            self.refused(BadPurse, {}, sides, EVEN, wrong, None, None)
            self.refused(BadWish, {}, sides, EVEN, NONE, wrong, NONE)
            self.refused(BadWish, {}, sides, EVEN, NONE, wrong, None)
        for wrong in wrong_tuples(3):
            self.refused(BadBar, {}, sides, EVEN, NONE, NONE, wrong)


class Rules(Case):
    def test_by_hand(self):
        self.told(((2, 1), ONE, ONE), rule, PAIR, (ONE, ZERO), (ZERO, ZERO), 0, 1)
        self.told((ONE, (2, 1), ONE), rule, PAIR, (ONE, ZERO), (ZERO, ZERO), 1, 0)
        self.told(((3, 2), (3, 2), (3, 2)), rule, EVEN, NONE, NONE, 0, 2)
        self.told((ZERO, ONE, ZERO), rule, BARE, [ONE] * 4, [ONE, ONE, ZERO, ZERO], 1, 3)

    def test_the_two_wares_may_have_any_slants(self):
        self.told(((-1, 1), (-2, 1), ONE), rule, PAIR, (ZERO, ZERO), ((2, 1), (3, 1)), 0, 1)
        self.told((ZERO, ZERO, ONE), rule, PAIR, (ZERO, ZERO), (ONE, ONE), 1, 0)

    def test_none(self):
        self.told(None, rule, EVEN, NONE, (ZERO, (2, 1), ZERO), 0, 2)
        self.told(None, rule, EVEN, NONE, (ZERO, (3, 1), ZERO), 0, 2)
        self.told(None, rule, BARE, [ZERO] * 4, [ZERO, ONE, ZERO, ZERO], 0, 2)
        self.told((ZERO, ZERO, ZERO), rule, BARE, [ZERO] * 4, [ZERO] * 4, 0, 2)

    def test_by_strikes(self):
        nones = 0
        for web, purse, wish in cases(67, 150):
            rows = oracle.matrix(web, purse, wish)
            for one in range(web.wares):
                for other in range(web.wares):
                    if one != other:
                        rest = [ware for ware in range(web.wares) if ware not in (one, other)]
                        left = oracle.behind(rows, rest[::-1])[0]
                        if left is None:
                            nones += 1
                            self.told(None, rule, web, purse, wish, one, other)
                        else:
                            wanted = pairs([left[one][one], left[other][other], -left[one][other]])
                            self.told(wanted, rule, web, purse, wish, one, other)
        self.assertTrue(nones > 100)

    def test_what_more_can_be_wished(self):
        chance = random.Random(68)
        for web, purse, wish in cases(68, 300):
            if web.wares > 1:
                one, other = chance.sample(range(web.wares), 2)
                told = rule(web, purse, wish, one, other)
                x, y = some_number(chance) / 2, some_number(chance) / 2
                wishes = worths(wish)
                wishes[one] += x
                wishes[other] += y
                can = False
                if told is not None:
                    a, b, root = worths(told)
                    can = a >= x and b >= y and (a - x) * (b - y) >= root * root
                self.assertEqual(can, scales(web, purse, pairs(wishes)) is not None)

    def test_wrong_ones(self):
        for wrong in wrong_rows(3):
            self.refused(BadPurse, {}, rule, EVEN, wrong, NONE, 0, 1)
            self.refused(BadPurse, {}, rule, EVEN, wrong, None, None, None)
            self.refused(BadWish, {}, rule, EVEN, NONE, wrong, 0, 1)
            self.refused(BadWish, {}, rule, EVEN, NONE, wrong, 0, 0)
        for wrong in wrong_wares(3):
            self.refused(BadWare, {}, rule, EVEN, NONE, NONE, wrong, 1)
            self.refused(BadWare, {}, rule, EVEN, NONE, NONE, 1, wrong)
        for ware in range(3):
            self.refused(BadWare, {}, rule, EVEN, NONE, NONE, ware, ware)
        self.refused(BadWare, {}, rule, LONE, [ZERO], [ZERO], 0, 0)


if __name__ == "__main__":
    unittest.main()
