"""Points 8.1 and 8.2: slips, lots that can be filled together, slips one behind another."""

import random
import unittest
from fractions import Fraction
from itertools import combinations

from rootstalls.brims import brim, brim_deal
from rootstalls.deals import played
from rootstalls.errors import BadLot, BadOrder, BadSlip, BadWare
from rootstalls.slips import can_fill, greatest_lots, in_row, kept
from rootstalls.webs import Web
from rootstalls.wishes import scales
from tests import oracle
from tests.samples import (
    BARE, EVEN, FULL, LARGE, LONE, ODD, ONE, SPLIT, ZERO, Case, odd_things, pair, some_number, webs,
    worth, wrong_integers, wrong_orders, wrong_somes, wrong_wares,
)

PAIR = Web(2, [(0, 1, ONE, ONE, ONE)])
BOTH = [(0, ONE, 1, (2, 3)), (1, ONE, 0, (2, 3))]
SLIP = (0, ONE, 1, (1, 2))


def random_slips(chance, web, number):
    """Slips for a web of two wares or more, most of which can be filled alone, but not together."""
    found = []
    ways = [chance.sample(range(web.wares), 2) for _ in range(2)]
    for _ in range(number):
        ware, other = chance.choice(ways)
        amount = some_number(chance)
        least = amount * Fraction(chance.randint(1, 4), 12)
        most = brim(web, [pair(amount) if at == ware else ZERO for at in range(web.wares)], other)
        if most != ZERO:
            least = worth(most) * Fraction(chance.randint(4, 9), 8)
        found.append((ware, pair(amount), other, pair(least)))
    return found


def rows_of(web, slips, lot):
    """The purse and the wish of a filler, with Python's fractions."""
    purse, wish = [Fraction(0)] * web.wares, [Fraction(0)] * web.wares
    for index in lot:
        ware, amount, other, least = slips[index]
        purse[ware] += worth(amount)
        wish[other] += worth(least)
    return [pair(one) for one in purse], [pair(one) for one in wish]


def fills(web, slips, lot):
    """Whether a lot can be filled, by determinants."""
    return oracle.can_all_be_struck(oracle.matrix(web, *rows_of(web, slips, lot)))


def lots_of(slips):
    return [part for many in range(len(slips) + 1) for part in combinations(range(len(slips)), many)]


def slip_cases(seed, number, most_wares, most_slips):
    chance = random.Random(seed)
    for web in webs(seed, number, most_wares, 10):
        if web.wares > 1:
            yield web, random_slips(chance, web, chance.randint(most_slips // 2, most_slips))


def wrong_slips():
    """Things that are no slip for a web of three wares."""
    wrong = odd_things() + [
        0, list(SLIP), SLIP[:3], SLIP + (ONE,), (0, ONE, 0, (1, 2)), (1, ONE, 3, (1, 2)),
        (-1, ONE, 1, (1, 2)), (0, ONE, 1, ZERO), (0, ZERO, 1, ONE), (0, (-1, 2), 1, ONE), (0, 1, ONE, ONE),
        (ONE, 0, ONE, 1), (0, 1, 1, 1), (False, ONE, 1, ONE), (0, ONE, True, ONE), "0111",
    ]
    for one in wrong_wares(3):
        wrong += [(one, ONE, 1, ONE), (0, ONE, one, ONE)]
    for one in wrong_somes():
        wrong += [(0, one, 1, ONE), (0, ONE, 1, one)]
    return wrong


class CanFill(Case):
    def test_by_hand(self):
        self.told(False, can_fill, PAIR, BOTH, (0,))
        self.told(False, can_fill, PAIR, BOTH, (1,))
        self.told(True, can_fill, PAIR, BOTH, (0, 1))
        self.told(True, can_fill, PAIR, BOTH, ())
        self.told(True, can_fill, PAIR, [SLIP], (0,))
        self.told(True, can_fill, PAIR, (SLIP,), (0,))
        self.told(True, can_fill, LONE, [], ())
        missed = (0, ONE, 1, pair(Fraction(1, 2) + Fraction(1, LARGE)))
        self.told(False, can_fill, PAIR, [missed], (0,))

    def test_wares_both_given_and_asked(self):
        # Two slips in a row over ware 1, which no stall would bring.
        slips = [(0, ONE, 1, ONE), (1, ONE, 2, (1, 2))]
        web = Web(3, [(0, 2, ONE, ONE, ONE)])
        self.told(True, can_fill, web, slips, (0, 1))
        self.told(False, can_fill, web, slips, (0,))
        self.told(False, can_fill, web, slips, (1,))
        self.told(True, can_fill, Web(2, []), [(0, ONE, 1, ONE), (1, ONE, 0, ONE)], (0, 1))
        self.told(False, can_fill, Web(2, []), [(0, ONE, 1, (2, 1)), (1, ONE, 0, ONE)], (0, 1))

    def test_what_can_be_had_for_nothing_helps(self):
        slip = (1, (1, LARGE), 0, (1, 4))
        self.told(True, can_fill, ODD, [slip], (0,))
        self.told(False, can_fill, EVEN, [slip], (0,))

    def test_by_determinants(self):
        answers = []
        for web, slips in slip_cases(140, 60, 5, 4):
            for lot in lots_of(slips):
                wanted = fills(web, slips, lot)
                purse, wish = rows_of(web, slips, lot)
                self.assertEqual(wanted, scales(web, purse, wish) is not None)
                self.told(wanted, can_fill, web, slips, lot)
                answers.append(wanted)
        self.assertTrue(100 < answers.count(True) < len(answers) - 100, answers.count(True))


class GreatestLots(Case):
    def test_by_hand(self):
        self.told([(0, 1)], greatest_lots, PAIR, BOTH)
        self.told([()], greatest_lots, PAIR, BOTH[:1])
        self.told([(0,)], greatest_lots, PAIR, [SLIP])
        self.told([(0,), (1,)], greatest_lots, PAIR, (SLIP, SLIP))
        self.told([()], greatest_lots, PAIR, [])
        self.told([()], greatest_lots, LONE, [])
        self.told([()], greatest_lots, FULL, ())
        self.told([(0, 1)], greatest_lots, Web(2, PAIR.stalls * 2), [SLIP, SLIP])

    def test_a_greater_lot_than_one_that_cannot_be_filled(self):
        # Neither of the first two by itself, both together; and the third one alone, not with these.
        slips = BOTH + [SLIP]
        good = [lot for lot in lots_of(slips) if fills(PAIR, slips, lot)]
        self.assertNotIn((0,), good)
        self.assertNotIn((1,), good)
        self.assertTrue((2,) in good and (0, 1) in good)
        greatest = [lot for lot in good if not [one for one in good if set(lot) < set(one)]]
        self.told(sorted(greatest), greatest_lots, PAIR, slips)

    def test_by_trying_all_lots(self):
        numbers = []
        for web, slips in slip_cases(141, 80, 5, 5):
            good = [lot for lot in lots_of(slips) if fills(web, slips, lot)]
            wanted = sorted(lot for lot in good if not [one for one in good if set(lot) < set(one)])
            self.told(wanted, greatest_lots, web, slips)
            self.told(wanted, greatest_lots, web, tuple(slips))
            numbers.append(len(wanted))
        self.assertTrue(10 < numbers.count(1) < len(numbers) - 15 and max(numbers) > 3, numbers)

    def test_10_slips(self):
        chance = random.Random(142)
        for web in (FULL, EVEN, SPLIT):
            slips = random_slips(chance, web, 10)
            found = greatest_lots(web, slips)
            self.assertEqual(sorted(set(found)), found)
            good = {lot for lot in lots_of(slips) if can_fill(web, slips, lot)}
            self.assertEqual(
                sorted(lot for lot in good if not [one for one in found if set(lot) < set(one)]), found
            )
        web = Web(2, PAIR.stalls * 10)
        self.told([tuple(range(10))], greatest_lots, web, [SLIP] * 10)
        fives = list(combinations(range(10), 5))
        self.told(fives, greatest_lots, Web(2, PAIR.stalls * 5), [SLIP] * 10)


class Kept(Case):
    def test_by_hand(self):
        self.told((7, 12), kept, PAIR, BOTH, (0, 1), 0)
        self.told((7, 12), kept, PAIR, BOTH, (0, 1), 1)
        self.told(None, kept, PAIR, BOTH, (0,), 0)
        self.told(None, kept, PAIR, BOTH, (1,), 0)
        self.told(ZERO, kept, PAIR, BOTH, (), 0)
        self.told(ZERO, kept, PAIR, [SLIP], (0,), 0)
        self.told(ZERO, kept, PAIR, [SLIP], (0,), 1)
        self.told((1, 6), kept, PAIR, [(0, ONE, 1, (1, 3))], (0,), 1)
        self.told((1, 2), kept, PAIR, [(0, ONE, 1, (1, 3))], (0,), 0)
        self.told((1, 4), kept, ODD, [], (), 0)
        self.told(ZERO, kept, LONE, [], (), 0)

    def test_other_pieces(self):
        slips = [(4, ONE, 1, (1, 2)), (3, (2, 1), 5, (1, LARGE))]
        self.told((2, 1), kept, SPLIT, slips + [(3, (2, 1), 4, (1, LARGE))], (0, 2), 3)
        self.told(None, kept, SPLIT, slips, (0, 1), 3)
        self.told(None, kept, SPLIT, slips, (1,), 4)

    def test_just_filled_and_by_a_little_not(self):
        self.told(None, kept, PAIR, [(0, ONE, 1, pair(Fraction(1, 2) + Fraction(1, LARGE)))], (0,), 0)
        self.told(None, kept, PAIR, [(0, ONE, 1, pair(Fraction(1, 2) + Fraction(1, LARGE)))], (0,), 1)
        left = kept(PAIR, [(0, ONE, 1, pair(Fraction(1, 2) - Fraction(1, LARGE)))], (0,), 1)
        self.assertEqual((1, LARGE), left)

    def test_by_determinants(self):
        nones = somes = 0
        for web, slips in slip_cases(143, 60, 5, 4):
            for lot in lots_of(slips):
                purse, wish = rows_of(web, slips, lot)
                rows = oracle.matrix(web, purse, wish)
                for ware in range(web.wares):
                    needed = oracle.more_needed(rows, ware)
                    wanted = None if needed is None or needed > 0 else pair(-needed)
                    self.told(wanted, kept, web, slips, lot, ware)
                    self.assertEqual(can_fill(web, slips, lot), wanted is not None)
                    nones += wanted is None
                    somes += wanted not in (None, ZERO)
        self.assertTrue(nones > 200 and somes > 200)


class InRow(Case):
    def test_by_hand(self):
        self.told([(1, 2)], in_row, PAIR, [SLIP], (0,))
        self.told([None], in_row, PAIR, BOTH[:1], (0,))
        self.told([], in_row, PAIR, [], ())
        self.told([], in_row, LONE, (), ())
        # Behind the first one the stall holds 2 and 1/2: 1 more brings 1/6, one of the other 4/3.
        slips = [SLIP, (0, ONE, 1, (1, 6)), (1, ONE, 0, (4, 3)), (0, ONE, 1, (1, 5))]
        self.told([(1, 2), (1, 6)], in_row, PAIR, slips[:2], (0, 1))
        self.told([(1, 2), None], in_row, PAIR, slips[:2], (1, 0))
        self.told([(1, 2), None], in_row, PAIR, [SLIP, slips[3]], (0, 1))
        self.told([(1, 2), (4, 3)], in_row, PAIR, [SLIP, slips[2]], (0, 1))
        self.told([None, (1, 2)], in_row, PAIR, [SLIP, slips[2]], (1, 0))

    def test_who_does_nothing_changes_nothing(self):
        greedy = (0, (9, 1), 1, ONE)
        self.told([None, (1, 2)], in_row, PAIR, [greedy, SLIP], (0, 1))
        self.told([(1, 2), None, (1, 6)], in_row, PAIR, [greedy, SLIP, (0, ONE, 1, (1, LARGE))], (1, 0, 2))

    def test_unlike_pieces(self):
        # What is given and no stall takes counts for nothing.
        web = Web(5, ODD.stalls)
        slips = [(3, ONE, 0, (1, 4)), (4, ONE, 0, (1, LARGE)), (0, ONE, 3, (1, LARGE))]
        self.told([(1, 4), None, None], in_row, web, slips, (0, 1, 2))
        self.told([(1, 4), None, None], in_row, web, slips, (1, 0, 2))
        self.told([None, None, None], in_row, BARE, [(0, ONE, 1, ONE)] * 3, (2, 0, 1))

    def test_one_behind_another(self):
        chance = random.Random(144)
        nones = somes = 0
        for web, slips in slip_cases(144, 60, 6, 6):
            order = list(range(len(slips)))
            chance.shuffle(order)
            wanted, left = [], web
            for index in order:
                ware, amount, other, least = slips[index]
                purse = [amount if at == ware else ZERO for at in range(web.wares)]
                most = brim(left, purse, other)
                if worth(most) < worth(least):
                    wanted.append(None)
                else:
                    wanted.append(most)
                    left = played(left, purse, brim_deal(left, purse, other))[0]
            self.told(wanted, in_row, web, slips, tuple(order))
            nones += wanted.count(None)
            somes += len(wanted) - wanted.count(None)
        self.assertTrue(nones > 20 and somes > 20)

    def test_10_slips(self):
        found = in_row(FULL, random_slips(random.Random(145), FULL, 10), tuple(range(9, -1, -1)))
        self.assertEqual(10, len(found))


class Wrong(Case):
    CALLS = (
        lambda web, slips: can_fill(web, slips, None), greatest_lots, lambda web, slips: in_row(web, slips, None),
        lambda web, slips: kept(web, slips, None, None),
    )

    def test_rows_of_slips(self):
        rows = odd_things() + [
            0, SLIP + (SLIP,) * 7, [SLIP] * 11, (SLIP,) * 11, [None] * 11, {0: SLIP}, iter([SLIP]), "",
        ]
        rows = [row for row in rows if not isinstance(row, (list, tuple)) or len(row) > 10]
        for call in self.CALLS:
            for row in rows:
                self.refused(BadSlip, {"index": -1}, call, EVEN, row)

    def test_the_first_thing_that_is_no_slip(self):
        for call in self.CALLS:
            for thing in wrong_slips():
                self.refused(BadSlip, {"index": 0}, call, EVEN, [thing])
                self.refused(BadSlip, {"index": 1}, call, EVEN, (SLIP, thing, SLIP, None))
            self.refused(BadSlip, {"index": 9}, call, EVEN, [SLIP] * 9 + [None])
            self.refused(BadSlip, {"index": 0}, call, EVEN, SLIP)
            self.refused(BadSlip, {"index": 0}, call, LONE, [SLIP])
        self.refused(BadSlip, {"index": 2}, greatest_lots, PAIR, BOTH + [(0, ONE, 2, ONE)])

    def test_lots(self):
        slips = [SLIP] * 3
        wrong = odd_things() + [
            0, [], [0], [0, 1], (1, 0), (0, 0), (0, 1, 1), (2, 1), (3,), (0, 3), (-1,), (-1, 0), (0, 1, 2, 3),
            (False,), (0, True), (True, 2), (0, 10 ** 400), (-10 ** 400, 0), "01", range(2), {0: 0}, (0,) * 99999,
        ]
        wrong = [thing for thing in wrong if thing not in [(1,), (0, 2), ()]]
        wrong += [(0, one) for one in wrong_integers()] + [(one, 2) for one in wrong_integers()]
        for thing in wrong:
            self.refused(BadLot, {}, can_fill, EVEN, slips, thing)
            self.refused(BadLot, {}, kept, EVEN, slips, thing, 0)
            self.refused(BadLot, {}, kept, EVEN, slips, thing, None)
        self.refused(BadLot, {}, can_fill, EVEN, [], (0,))
        self.refused(BadLot, {}, kept, EVEN, [], (0,), 0)

    def test_wares(self):
        for wrong in wrong_wares(3):
            self.refused(BadWare, {}, kept, EVEN, [SLIP], (0,), wrong)
            self.refused(BadWare, {}, kept, EVEN, [(0, ONE, 1, (9, 1))], (0,), wrong)

    def test_orders(self):
        for wrong in wrong_orders():
            self.refused(BadOrder, {}, in_row, EVEN, [SLIP] * 3, wrong)
        self.refused(BadOrder, {}, in_row, EVEN, [], (0,))
        self.refused(BadOrder, {}, in_row, EVEN, [], [])
        self.refused(BadOrder, {}, in_row, EVEN, [SLIP], ())
        self.refused(BadOrder, {}, in_row, EVEN, [SLIP], (False,))


if __name__ == "__main__":
    unittest.main()
