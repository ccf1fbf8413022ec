"""Part 2 of the document's Part 1: moves, deals, and what lies between two webs."""

import random
import unittest
from fractions import Fraction

from rootstalls.deals import (
    change_of, is_deal, led, moved, moves_between, out_of, owes, played,
)
from rootstalls.errors import (
    BadAmount, BadDeal, BadIndex, BadMove, BadPurse, BadWish, OtherStalls,
)
from rootstalls.webs import Web, held
from tests.samples import (
    BARE, EVEN, FULL, LARGE, LONE, NONE, ODD, ONE, SPLIT, ZERO, Case, odd_things, pair, pairs,
    random_row, random_web, some_number, worth, worths, wrong_integers, wrong_rows, wrong_somes,
)

PURSE = (ONE, ZERO, ZERO)


def wrong_moves():
    """Things that are no move of EVEN."""
    wrong = odd_things() + [
        0, [0, 0, ONE], (0, 0), (0, 0, ONE, ONE), (3, 0, ONE), (-1, 0, ONE), (0, 2, ONE),
        (1, 0, ONE), (2, 1, ONE), (0, -1, ONE), (0, 3, ONE), (0, 0, ZERO), (0, 0, (-1, 2)),
        (0, 0, 1), (False, 0, ONE), (0, False, ONE), (True, 1, ONE), (1, True, ONE),
        (10 ** 400, 0, ONE),
    ]
    for thing in wrong_integers():
        wrong += [(thing, 0, ONE), (0, thing, ONE)]
    return wrong + [(0, 0, thing) for thing in wrong_somes()]


def random_deal(chance, web, moves):
    deal = []
    for _ in range(moves if web.stalls else 0):
        index = chance.randrange(len(web.stalls))
        ware = chance.choice(web.stalls[index][:2])
        deal.append((index, ware, pair(some_number(chance) / 3)))
    return deal


def move_by_hand(stalls, purse, move):
    """One move, reckoned by the product that the stall keeps."""
    index, ware, amount = move
    one, other, kept, other_kept, root = stalls[index]
    at, beside, out_ware = (2, 3, other) if ware == one else (3, 2, one)
    stall = list(stalls[index])
    before = worth(stall[beside])
    stall[at] = pair(worth(stall[at]) + worth(amount))
    stall[beside] = pair(worth(root) ** 2 / worth(stall[at]))
    stalls[index] = tuple(stall)
    purse[ware] -= worth(amount)
    purse[out_ware] += before - worth(stall[beside])


def samples(seed, number):
    chance = random.Random(seed)
    for _ in range(number):
        web = random_web(chance, chance.randint(1, 8), chance.randint(0, 8))
        yield web, random_row(chance, web.wares), random_deal(chance, web, chance.randint(0, 12))


class Moves(Case):
    def test_what_comes_out(self):
        self.told((1, 2), out_of, EVEN, (0, 0, ONE))
        self.told((1, 2), out_of, EVEN, (0, 1, ONE))
        self.told((1, 4), out_of, ODD, (2, 0, (2, 1)))
        self.told((3, 2), out_of, ODD, (2, 2, (3, 2)))
        self.told((LARGE, LARGE + 1), out_of, EVEN, (1, 2, (LARGE, 1)))
        self.told((1, LARGE + 1), out_of, EVEN, (1, 2, (1, LARGE)))

    def test_the_web_behind(self):
        self.told(
            Web(3, [(0, 1, (2, 1), (1, 2), ONE), EVEN.stalls[1], EVEN.stalls[2]]),
            moved, EVEN, (0, 0, ONE)
        )
        self.told(
            Web(3, [(0, 1, (1, 2), (2, 1), ONE), EVEN.stalls[1], EVEN.stalls[2]]),
            moved, EVEN, (0, 1, ONE)
        )
        self.assertEqual(ODD, moved(EVEN, (2, 0, ONE)))
        self.assertEqual(EVEN, moved(ODD, (2, 2, (1, 2))))

    def test_by_the_product(self):
        for web, purse, deal in samples(31, 100):
            for move in deal:
                stalls, have = list(web.stalls), worths(purse)
                move_by_hand(stalls, have, move)
                self.told(Web(web.wares, stalls), moved, web, move)
                out = sum(have) - sum(worths(purse)) + worth(move[2])
                self.told(pair(out), out_of, web, move)

    def test_moves_are_asked(self):
        for wrong in wrong_moves():
            self.refused(BadMove, {}, out_of, EVEN, wrong)
            self.refused(BadMove, {}, moved, EVEN, wrong)
        self.refused(BadMove, {}, out_of, LONE, (0, 0, ONE))
        self.refused(BadMove, {}, moved, BARE, (0, 0, ONE))


class Led(Case):
    def test_the_first_ware_is_led(self):
        self.told(ODD, led, EVEN, 2, (2, 1))
        self.told(EVEN, led, ODD, 2, ONE)
        self.told(EVEN, led, EVEN, 1, ONE)
        self.told((3, 16), lambda web: led(web, 0, (64, 3)).stalls[0][3], SPLIT)
        self.assertEqual(SPLIT.stalls[1:], led(SPLIT, 0, (5, 7)).stalls[1:])
        self.assertEqual((4, 1, (5, 7), (28, 5), (2, 1)), led(SPLIT, 0, (5, 7)).stalls[0])
        self.assertEqual((1, LARGE), led(EVEN, 0, (LARGE, 1)).stalls[0][3])

    def test_wrong_ones(self):
        for wrong in wrong_integers() + [-1, 3, 4, 10 ** 400]:
            self.refused(BadIndex, {}, led, EVEN, wrong, ONE)
            self.refused(BadIndex, {}, led, EVEN, wrong, ZERO)
            self.refused(BadIndex, {}, led, EVEN, wrong, None)
        self.refused(BadIndex, {}, led, LONE, 0, ONE)
        for wrong in wrong_somes():
            self.refused(BadAmount, {}, led, EVEN, 2, wrong)


class Played(Case):
    def test_by_hand(self):
        self.told((ODD, (ZERO, ZERO, (1, 2))), played, EVEN, PURSE, [(2, 0, ONE)])
        self.told((EVEN, PURSE), played, EVEN, PURSE, [])
        self.told((EVEN, PURSE), played, EVEN, list(PURSE), ())
        self.told((LONE, ((3, 2),)), played, LONE, [(3, 2)], [])
        self.told((BARE, (ONE,) * 4), played, BARE, [ONE] * 4, ())

    def test_owing(self):
        web, left = played(EVEN, NONE, ((0, 0, ONE), (1, 1, ONE)))
        self.assertEqual(((-1, 1), (-1, 2), (1, 2)), left)
        self.assertEqual(((3, 1), (5, 2), (3, 2)), held(web))

    def test_move_by_move(self):
        for web, purse, deal in samples(32, 150):
            stalls, have = list(web.stalls), worths(purse)
            first = None
            for index, move in enumerate(deal):
                move_by_hand(stalls, have, move)
                if first is None and min(have) < 0:
                    first = (index, [number < 0 for number in have].index(True))
            self.told((Web(web.wares, stalls), pairs(have)), played, web, purse, deal)
            self.told((Web(web.wares, stalls), pairs(have)), played, web, tuple(purse), tuple(deal))
            self.told(first, owes, web, purse, deal)

    def test_200_moves(self):
        chance = random.Random(7)
        deal = [(at % 16, FULL.stalls[at % 16][at // 16 % 2], ONE) for at in range(200)]
        stalls, have = list(FULL.stalls), [Fraction(300)] * 8
        for move in deal:
            move_by_hand(stalls, have, move)
        purse = [(300, 1)] * 8
        self.told((Web(8, stalls), pairs(have)), played, FULL, purse, deal)
        self.told(None, owes, FULL, purse, deal)
        self.told(True, is_deal, FULL, purse, list(pairs(have)), deal)
        chance.shuffle(deal)
        self.refused(BadDeal, {"index": -1}, played, FULL, purse, deal + deal[:1])
        self.refused(BadDeal, {"index": -1}, owes, FULL, purse, tuple(deal + deal[:1]))

    def test_purses_are_asked_first(self):
        for wrong in wrong_rows(3):
            for call in (played, owes):
                self.refused(BadPurse, {}, call, EVEN, wrong, [])
                self.refused(BadPurse, {}, call, EVEN, wrong, None)
            self.refused(BadPurse, {}, is_deal, EVEN, wrong, NONE, [])
            self.refused(BadPurse, {}, is_deal, EVEN, wrong, wrong, None)
            self.refused(BadWish, {}, is_deal, EVEN, NONE, wrong, [])
            self.refused(BadWish, {}, is_deal, EVEN, NONE, wrong, None)

    def test_the_first_that_is_no_move(self):
        right = (0, 0, ONE)
        for wrong in wrong_moves():
            for call in (played, owes):
                self.refused(BadDeal, {"index": 0}, call, EVEN, NONE, [wrong])
                self.refused(BadDeal, {"index": 1}, call, EVEN, NONE, (right, wrong, wrong, right))
        self.refused(BadDeal, {"index": 199}, played, EVEN, NONE, [right] * 199 + [None])

    def test_rows_are_asked(self):
        for wrong in odd_things() + [{0: (0, 0, ONE)}, iter([]), [None] * 201]:
            if not isinstance(wrong, (list, tuple)) or len(wrong) > 200:
                self.refused(BadDeal, {"index": -1}, played, EVEN, NONE, wrong)
                self.refused(BadDeal, {"index": -1}, owes, EVEN, NONE, wrong)

    def test_large_numbers(self):
        deal = [(0, 0, (LARGE, 1))] * 100 + [(1, 1, (1, LARGE))] * 100
        purse = [(100 * LARGE, 1), ONE, ZERO]
        web, left = played(EVEN, purse, deal)
        self.assertEqual((100 * LARGE + 1, 1), web.stalls[0][2])
        self.assertEqual(pair(1 + Fraction(100, LARGE)), web.stalls[1][2])
        self.assertEqual(ZERO, left[0])
        self.assertIs(None, owes(EVEN, purse, deal))
        self.assertEqual((99, 0), owes(EVEN, [(100 * LARGE - 1, 1), ONE, ZERO], deal))


class Owes(Case):
    def test_the_first_move(self):
        self.told(None, owes, EVEN, PURSE, [(0, 0, ONE)])
        self.told((0, 0), owes, EVEN, PURSE, [(0, 0, (101, 100))])
        self.told((1, 0), owes, EVEN, PURSE, [(0, 0, ONE), (2, 0, (1, 100)), (1, 2, ONE)])
        self.told(None, owes, EVEN, PURSE, [(0, 0, ONE), (1, 1, (1, 2))])
        self.told((1, 1), owes, EVEN, PURSE, [(0, 0, ONE), (1, 1, (501, 1000))])
        self.told(None, owes, EVEN, NONE, ())
        self.told((0, 2), owes, EVEN, NONE, ((1, 2, ONE), (1, 1, ONE)))

    def test_what_is_made_good_later_counts(self):
        self.told((0, 0), owes, EVEN, NONE, [(0, 0, ONE), (0, 1, (1, 2))])
        self.told((EVEN, NONE), played, EVEN, NONE, [(0, 0, ONE), (0, 1, (1, 2))])


class IsDeal(Case):
    def test_just_met_and_missed_by_a_little(self):
        deal = [(2, 0, ONE)]
        for wish, flag in [
            (NONE, True), ((ZERO, ZERO, (1, 2)), True), ((ZERO, ZERO, (501, 1000)), False),
            ((ZERO, (1, LARGE), ZERO), False), (((1, LARGE), ZERO, ZERO), False),
            ((ZERO, ZERO, pair(Fraction(LARGE, 2 * LARGE + 1))), True),
            ((ZERO, ZERO, pair(Fraction(LARGE + 1, 2 * LARGE + 1))), False),
        ]:
            self.told(flag, is_deal, EVEN, PURSE, wish, deal)
            self.told(flag, is_deal, EVEN, list(PURSE), list(wish), list(deal))

    def test_owing_meanwhile_is_no_matter(self):
        self.told(True, is_deal, EVEN, NONE, NONE, [(0, 0, ONE), (0, 1, (1, 2))])
        self.told(False, is_deal, EVEN, NONE, NONE, [(0, 0, ONE), (0, 1, (1, 3))])

    def test_no_moves(self):
        self.told(True, is_deal, EVEN, PURSE, PURSE, [])
        self.told(False, is_deal, EVEN, NONE, PURSE, [])
        self.told(True, is_deal, LONE, [ONE], [ONE], [])

    def test_lists_alone(self):
        self.told(True, is_deal, EVEN, PURSE, NONE, [(2, 0, ONE)])
        self.told(False, is_deal, EVEN, PURSE, NONE, ((2, 0, ONE),))
        self.told(False, is_deal, EVEN, PURSE, NONE, ())

    def test_at_most_200_moves(self):
        self.told(True, is_deal, EVEN, [(300, 1)] * 3, NONE, [(0, 0, ONE)] * 200)
        self.told(False, is_deal, EVEN, [(300, 1)] * 3, NONE, [(0, 0, ONE)] * 201)

    def test_any_object_is_judged(self):
        for wrong in odd_things():
            self.told(False, is_deal, EVEN, PURSE, NONE, wrong)
        for wrong in wrong_moves():
            self.told(False, is_deal, EVEN, PURSE, NONE, [(2, 0, ONE), wrong])


class Between(Case):
    def test_moves_by_indexes(self):
        self.told([(2, 0, ONE)], moves_between, EVEN, ODD)
        self.told([(2, 2, (1, 2))], moves_between, ODD, EVEN)
        self.told([], moves_between, EVEN, EVEN)
        self.told([], moves_between, LONE, Web(1, ()))
        self.told([], moves_between, BARE, BARE)

    def test_change(self):
        self.told(((-1, 1), ZERO, (1, 2)), change_of, EVEN, ODD)
        self.told((ONE, ZERO, (-1, 2)), change_of, ODD, EVEN)
        self.told(NONE, change_of, EVEN, EVEN)
        self.told((ZERO,), change_of, LONE, LONE)

    def test_they_lead_there(self):
        for web, purse, deal in samples(33, 150):
            other = played(web, purse, deal)[0]
            moves = moves_between(web, other)
            unlike = [at for at, stall in enumerate(web.stalls) if stall != other.stalls[at]]
            self.assertEqual(unlike, [move[0] for move in moves])
            self.assertEqual(other, played(web, purse, moves)[0])
            left = [pair(worth(a) + worth(b)) for a, b in zip(purse, change_of(web, other))]
            self.assertEqual(tuple(left), played(web, purse, moves)[1])
            self.told(moves, moves_between, web, other)
            self.told(change_of(web, other), change_of, web, other)

    def test_other_stalls(self):
        stall = (0, 1, ONE, (4, 1), (2, 1))
        web = Web(3, [stall, (1, 2, ONE, ONE, ONE)])
        for other in [
            Web(3, [stall]), Web(3, [stall, (1, 2, ONE, ONE, ONE), stall]), Web(3, []),
            Web(4, web.stalls), Web(8, web.stalls), Web(3, [web.stalls[1], web.stalls[0]]),
            Web(3, [(1, 0, (4, 1), ONE, (2, 1)), web.stalls[1]]),
            Web(3, [(0, 2) + stall[2:], web.stalls[1]]), Web(3, [(2, 1) + stall[2:], web.stalls[1]]),
            Web(3, [stall, (1, 2, ONE, (4, 1), (2, 1))]), Web(3, [(0, 1, ONE, ONE, ONE), web.stalls[1]]),
        ]:
            for call in (moves_between, change_of):
                self.refused(OtherStalls, {}, call, web, other)
                self.refused(OtherStalls, {}, call, other, web)
        self.refused(OtherStalls, {}, change_of, Web(2, []), Web(3, []))


if __name__ == "__main__":
    unittest.main()
