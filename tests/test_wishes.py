"""Points 3.1 and 3.2: scales and bars, and the deals that scales bring."""

import unittest
from fractions import Fraction

from rootstalls.brims import brim
from rootstalls.deals import is_deal, moves_between, played
from rootstalls.errors import BadPurse, BadScales, BadWish
from rootstalls.webs import Web
from rootstalls.wishes import bar, deal_by, deal_for, is_bar, is_scales, scales
from tests import oracle
from tests.samples import (
    BARE, EVEN, FULL, LARGE, LONE, NONE, ODD, ONE, SPLIT, ZERO, Case, cases, odd_things, pair,
    pairs, worth, worths, wrong_rows, wrong_somes, wrong_tuples,
)

PAIR = Web(2, [(0, 1, ONE, ONE, ONE)])
PURSE = (ONE, ZERO)
JUST = (ZERO, (1, 2))
MISSED = (ZERO, pair(Fraction(LARGE + 1, 2 * LARGE)))


def tuple_is_scales(web, purse, wish, thing):
    """The words of 3.1, with Python's fractions."""
    rows = oracle.matrix(web, purse, wish)
    x = worths(thing)
    return min(x) > 0 and all(sum(a * b for a, b in zip(row, x)) >= 0 for row in rows)


def tuple_is_bar(web, purse, wish, thing):
    """The words of 3.1, with Python's fractions."""
    x = worths(thing)
    left = sum(a * b * b for a, b in zip(oracle.stay(web, purse, wish), x))
    right = sum(2 * worth(stall[4]) * x[stall[0]] * x[stall[1]] for stall in web.stalls)
    return min(x) >= 0 and max(x) > 0 and left < right


def edges():
    """Webs, purses and wishes at the edges that the document names."""
    yield LONE, [ZERO], [ZERO]
    yield LONE, [ONE], [ONE]
    yield LONE, [ONE], [pair(Fraction(LARGE + 1, LARGE))]
    yield BARE, [ONE] * 4, [ZERO, ONE, ZERO, ONE]
    yield BARE, [ONE] * 4, [ZERO, (2, 1), ZERO, ONE]
    yield Web(8, []), [ZERO] * 8, [ZERO] * 8
    yield Web(8, []), [ZERO] * 8, [ZERO] * 7 + [ONE]
    yield PAIR, PURSE, JUST
    yield PAIR, PURSE, MISSED
    yield PAIR, PURSE, ((2, 1), ZERO)
    yield PAIR, PURSE, ((2, 1), ONE)
    yield PAIR, (ZERO, ZERO), (ONE, ZERO)
    yield PAIR, (ZERO, (9, 1)), (ONE, ZERO)
    yield PAIR, (ZERO, (9, 1)), (ZERO, (10, 1))
    yield PAIR, (ZERO, (9, 1)), (ZERO, (99, 1))
    yield PAIR, ((LARGE, 1), ZERO), (ZERO, pair(Fraction(LARGE, LARGE + 1)))
    yield PAIR, ((LARGE, 1), ZERO), (ZERO, ONE)
    for web in (EVEN, ODD):
        yield web, NONE, NONE
        yield web, NONE, (ZERO, ZERO, (1, 10))
        yield web, NONE, (ZERO, ZERO, (101, 1000))
        yield web, NONE, ((1, 4), ZERO, ZERO)
        yield web, NONE, (ZERO, (1, 7), ZERO)
        yield web, NONE, (ZERO, (1, 7), (1, LARGE))
        yield web, NONE, ((9, 1), (9, 1), (9, 1))
    yield SPLIT, [ZERO] * 6, [ZERO] * 6
    yield SPLIT, [ONE] * 6, [ZERO] * 3 + [ONE] + [ZERO] * 2
    yield SPLIT, [ONE] * 6, [ZERO] * 3 + [(2, 1)] + [ZERO] * 2
    yield SPLIT, [ONE] * 6, [ZERO] * 5 + [(2, 1)]
    yield FULL, [ZERO] * 8, [ZERO] * 8
    yield FULL, [ONE] * 8, [ONE] * 8
    yield FULL, [ONE] * 8, [(3, 1)] * 8


def all_cases():
    yield from edges()
    yield from cases(51, 300)
    yield from cases(52, 40, 8)
    # Wishes that are just met, and such that are missed by a little.
    for web, purse, wish in cases(53, 100):
        most = worth(brim(web, purse, 0))
        rest = [ZERO] * (web.wares - 1)
        yield web, purse, [pair(most)] + rest
        yield web, purse, [pair(most + Fraction(1, LARGE))] + rest


class ScalesAndBars(Case):
    def test_just_one_is_there_and_is_right(self):
        met = []
        for web, purse, wish in all_cases():
            found, against = scales(web, purse, wish), bar(web, purse, wish)
            self.assertIsNot(found is None, against is None)
            met.append(found is not None)
            if found is None:
                self.assertTrue(tuple_is_bar(web, purse, wish, against))
                self.assertIs(True, is_bar(web, purse, wish, against))
                self.told(None, scales, web, purse, wish)
                self.told(against, bar, web, purse, wish)
            else:
                self.assertTrue(tuple_is_scales(web, purse, wish, found))
                self.assertIs(True, is_scales(web, purse, wish, found))
                self.told(None, bar, web, purse, wish)
                self.told(found, scales, web, purse, wish)
        self.assertTrue(100 < met.count(True) < len(met) - 100)

    def test_scales_as_the_determinants_tell(self):
        for web, purse, wish in cases(54, 200, 4):
            can = oracle.can_all_be_struck(oracle.matrix(web, purse, wish))
            self.assertEqual(can, scales(web, purse, wish) is not None)

    def test_answers_are_tuples_of_fractions(self):
        for web, purse, wish in all_cases():
            for answer in (scales(web, purse, wish), bar(web, purse, wish)):
                if answer is not None:
                    self.assertIs(tuple, answer.__class__)
                    self.assertEqual(web.wares, len(answer))
                    self.assertEqual(pairs(worths(answer)), answer)

    def test_just_met_and_missed_by_a_little(self):
        self.assertIsNotNone(scales(PAIR, PURSE, JUST))
        self.assertIsNone(scales(PAIR, PURSE, MISSED))
        just = (ZERO, pair(Fraction(LARGE, LARGE + 1)))
        self.assertIsNotNone(scales(PAIR, ((LARGE, 1), ZERO), just))
        # All that a stall holds of a ware can never be had.
        self.assertIsNone(scales(PAIR, ((LARGE, 1), ZERO), (ZERO, ONE)))
        self.assertIsNone(scales(LONE, [ONE], [pair(Fraction(LARGE + 1, LARGE))]))

    def test_is_scales(self):
        self.told(True, is_scales, PAIR, PURSE, JUST, (ONE, (2, 1)))
        self.told(True, is_scales, PAIR, PURSE, JUST, ((3, 1), (6, 1)))
        self.told(False, is_scales, PAIR, PURSE, JUST, (ONE, (3, 1)))
        self.told(False, is_scales, PAIR, PURSE, JUST, (ONE, ONE))
        self.told(False, is_scales, PAIR, PURSE, JUST, (ONE, pair(2 - Fraction(1, LARGE))))
        self.told(False, is_scales, PAIR, PURSE, JUST, (ONE, pair(2 + Fraction(1, LARGE))))
        self.told(False, is_scales, PAIR, PURSE, MISSED, (ONE, (2, 1)))
        self.told(True, is_scales, LONE, [ONE], [ONE], ((LARGE, 7),))
        self.told(False, is_scales, LONE, [ONE], [(2, 1)], (ONE,))

    def test_is_bar(self):
        self.told(True, is_bar, PAIR, PURSE, MISSED, (ONE, (2, 1)))
        self.told(False, is_bar, PAIR, PURSE, JUST, (ONE, (2, 1)))
        self.told(False, is_bar, PAIR, PURSE, MISSED, (ONE, ONE))
        self.told(False, is_bar, PAIR, PURSE, MISSED, (ZERO, ZERO))
        self.told(False, is_bar, LONE, [ONE], [ONE], (ONE,))
        self.told(True, is_bar, LONE, [ONE], [(2, 1)], ((1, LARGE),))
        self.told(False, is_bar, LONE, [ONE], [(2, 1)], (ZERO,))
        self.told(True, is_bar, BARE, [ZERO] * 4, [ZERO, ONE, ZERO, ZERO], (ZERO, ONE, ZERO, ZERO))
        self.told(False, is_bar, BARE, [ZERO] * 4, [ZERO, ONE, ZERO, ZERO], (ONE, ZERO, ZERO, ZERO))

    def test_alike_stalls_each_count(self):
        twice = Web(2, PAIR.stalls * 2)
        for amounts in [(ONE, ONE), (ONE, (2, 1)), ((3, 2), ONE)]:
            for wish in [(ZERO, ZERO), (ZERO, ONE), ((1, 2), ONE), ((3, 2), (1, 2))]:
                for call, words in ((is_bar, tuple_is_bar), (is_scales, tuple_is_scales)):
                    wanted = words(twice, PURSE, wish, amounts)
                    self.told(wanted, call, twice, PURSE, wish, amounts)

    def test_many_tuples_are_judged(self):
        numbers = [ZERO, (1, 2), ONE, (2, 1), (5, 1)]
        for at, (web, purse, wish) in enumerate(cases(55, 150, 3)):
            thing = tuple(numbers[(at + 2 * ware) % 5] for ware in range(web.wares))
            self.told(tuple_is_bar(web, purse, wish, thing), is_bar, web, purse, wish, thing)
            self.told(tuple_is_scales(web, purse, wish, thing), is_scales, web, purse, wish, thing)

    def test_any_object_is_judged(self):
        for wrong in wrong_tuples(3):
            self.told(False, is_scales, EVEN, NONE, NONE, wrong)
            self.told(False, is_bar, EVEN, NONE, [(9, 1)] * 3, wrong)
        self.told(False, is_scales, EVEN, NONE, NONE, [ONE] * 3)
        self.told(True, is_scales, EVEN, NONE, NONE, (ONE,) * 3)
        self.told(False, is_scales, EVEN, NONE, NONE, (ONE, ONE, ZERO))
        self.told(False, is_scales, BARE, [ONE] * 4, [ZERO] * 4, (ONE, ZERO, ONE, ONE))
        self.told(True, is_bar, EVEN, NONE, [(9, 1)] * 3, (ONE,) * 3)
        self.told(False, is_bar, EVEN, NONE, [(9, 1)] * 3, [ONE] * 3)

    def test_purses_and_wishes_are_asked(self):
        for wrong in wrong_rows(3):
            for call in (scales, bar, deal_for):
                self.refused(BadPurse, {}, call, EVEN, wrong, NONE)
                self.refused(BadPurse, {}, call, EVEN, wrong, wrong)
                self.refused(BadWish, {}, call, EVEN, NONE, wrong)
            for call in (is_scales, is_bar):
                self.refused(BadPurse, {}, call, EVEN, wrong, NONE, (ONE,) * 3)
                self.refused(BadPurse, {}, call, EVEN, wrong, None, None)
                self.refused(BadWish, {}, call, EVEN, NONE, wrong, (ONE,) * 3)
                self.refused(BadWish, {}, call, EVEN, NONE, wrong, None)


class Deals(Case):
    def test_stalls_hold_what_the_scales_say(self):
        for at, (web, purse, wish) in enumerate(all_cases()):
            scale = pairs([Fraction(1 + (at + 3 * ware) % 4, 1 + ware % 3) for ware in range(web.wares)])
            moves = deal_by(web, scale)
            behind = played(web, purse, moves)[0]
            for one, other, kept, other_kept, root in behind.stalls:
                self.assertEqual(worth(root) * worth(scale[other]) / worth(scale[one]), worth(kept))
            self.told(moves_between(web, behind), deal_by, web, scale)

    def test_one_move_for_each_stall_that_has_to_change(self):
        self.told([], deal_by, EVEN, (ONE,) * 3)
        self.told([(2, 2, (1, 2))], deal_by, ODD, ((7, 2),) * 3)
        self.told([(0, 0, ONE), (1, 2, ONE)], deal_by, EVEN, (ONE, (2, 1), ONE))
        self.told([(0, 1, ONE), (2, 2, ONE)], deal_by, EVEN, ((2, 1), ONE, ONE))
        self.told([], deal_by, LONE, (ONE,))
        self.told([], deal_by, BARE, ((1, LARGE), (LARGE, 1), ONE, ONE))

    def test_scales_are_asked(self):
        for wrong in wrong_tuples(3) + [[ONE] * 3, (ONE, ONE, ZERO), (ZERO,) * 3, (ONE, ONE, (-1, 1))]:
            self.refused(BadScales, {}, deal_by, EVEN, wrong)
        for wrong in wrong_somes():
            self.refused(BadScales, {}, deal_by, PAIR, (ONE, wrong))
        self.refused(BadScales, {}, deal_by, LONE, ())

    def test_deals_meet_the_wish(self):
        for web, purse, wish in all_cases():
            deal = deal_for(web, purse, wish)
            if scales(web, purse, wish) is None:
                self.assertIsNone(deal)
            else:
                self.assertIs(True, is_deal(web, purse, wish, deal))
                self.assertTrue(len(deal) <= len(web.stalls))
                self.told(deal, deal_for, web, tuple(purse), tuple(wish))

    def test_no_deal(self):
        self.told(None, deal_for, PAIR, PURSE, MISSED)
        self.told(None, deal_for, LONE, [ZERO], [ONE])
        self.told([], deal_for, LONE, [ONE], [ONE])
        self.told([], deal_for, BARE, [ONE] * 4, [ONE] * 4)

    def test_scales_are_asked_of_a_longer_web(self):
        for wrong in odd_things():
            self.refused(BadScales, {}, deal_by, SPLIT, wrong)


if __name__ == "__main__":
    unittest.main()
