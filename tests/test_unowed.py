"""Point 7.1: deals behind each move of which nothing is owed."""

import random
import unittest
from fractions import Fraction

from rootstalls.brims import brim
from rootstalls.deals import is_deal, owes, played
from rootstalls.errors import BadPurse, BadWish, NotFit
from rootstalls.unowed import is_unowed, unowed
from rootstalls.webs import Web
from rootstalls.wishes import deal_for, scales
from tests import oracle
from tests.samples import (
    BARE, EVEN, LARGE, LONE, NONE, ODD, ONE, SPLIT, ZERO, Case, fitting_web, odd_things, pair, pairs,
    random_row, worth, worths, wrong_integers, wrong_rows, wrong_somes,
)

PAIR = Web(2, [(0, 1, ONE, ONE, ONE)])
ROW = Web(3, [(0, 1, ONE, ONE, ONE), (1, 2, ONE, ONE, ONE)])
BACK = Web(3, [(1, 2, ONE, ONE, ONE), (0, 1, ONE, ONE, ONE)])
FIRST = (ONE, ZERO, ZERO)


def on_the_way(web, purse, moves):
    """What the customer has behind each move, with Python's fractions."""
    has = worths(purse)
    stalls = [[worth(stall[2]), worth(stall[3])] for stall in web.stalls]
    for index, ware, amount in moves:
        one, other, _, _, root = web.stalls[index]
        at = 0 if ware == one else 1
        product = stalls[index][0] * stalls[index][1]
        before = stalls[index][1 - at]
        stalls[index][at] += worth(amount)
        stalls[index][1 - at] = product / stalls[index][at]
        has[ware] -= worth(amount)
        has[oracle.beyond(web.stalls[index], ware)] += before - stalls[index][1 - at]
        yield list(has)


def hard_cases(seed, number, most_wares=8):
    """Webs that fit, with purses and wishes that are just met, or met up to a part."""
    chance = random.Random(seed)
    for _ in range(number):
        wares = chance.randint(1, most_wares)
        web = fitting_web(chance, wares, chance.randint(wares - 1, 16))
        purse = random_row(chance, wares)
        wish = random_row(chance, wares)
        ware = chance.randrange(wares)
        part = chance.choice([Fraction(1), Fraction(1, 2), Fraction(1), Fraction(LARGE + 1, LARGE)])
        if chance.random() < 0.8:
            most = worth(brim(web, purse, ware)) * part
            wish = [pair(most) if at == ware else ZERO for at in range(wares)]
        yield web, purse, wish


class Unowed(Case):
    def check(self, web, purse, wish):
        """What unowed tells, held against the words of 7.1; its answer."""
        moves = unowed(web, purse, wish)
        can = oracle.can_all_be_struck(oracle.matrix(web, purse, wish))
        self.assertEqual(can, moves is not None)
        if moves is not None:
            self.assertIs(list, type(moves))
            self.told(moves, unowed, web, purse, wish)
            self.assertIs(True, is_deal(web, purse, wish, moves))
            self.assertIs(None, owes(web, purse, moves))
            self.assertIs(True, is_unowed(web, purse, wish, moves))
            indexes = [move[0] for move in moves]
            self.assertEqual(len(set(indexes)), len(indexes))
            ways = list(on_the_way(web, purse, moves))
            self.assertEqual([], [has for has in ways if min(has) < 0])
            behind = ways[-1] if ways else worths(purse)
            self.assertEqual([], [1 for has, least in zip(behind, worths(wish)) if has < least])
        return moves

    def test_by_hand(self):
        self.assertEqual([(0, 0, ONE), (1, 1, (1, 2))], self.check(ROW, FIRST, (ZERO, ZERO, (1, 3))))
        # The other way round by their indexes, the second stall would be owed ware 1.
        self.assertEqual([(1, 0, ONE), (0, 1, (1, 2))], self.check(BACK, FIRST, (ZERO, ZERO, (1, 3))))
        deal = deal_for(BACK, FIRST, (ZERO, ZERO, (1, 3)))
        self.assertEqual((0, 1), owes(BACK, FIRST, deal))
        self.assertIs(False, is_unowed(BACK, FIRST, (ZERO, ZERO, (1, 3)), deal))
        self.assertEqual([(0, 0, ONE)], self.check(PAIR, (ONE, ZERO), (ZERO, (1, 2))))

    def test_just_met_and_missed_by_a_little(self):
        self.check(EVEN, FIRST, (ZERO, (3, 5), ZERO))
        missed = pair(Fraction(3, 5) + Fraction(1, LARGE))
        self.told(None, unowed, EVEN, FIRST, (ZERO, missed, ZERO))
        self.told(None, unowed, EVEN, NONE, (ZERO, ZERO, (1, LARGE)))

    def test_met_already_by_the_purse(self):
        self.assertIsNotNone(self.check(EVEN, FIRST, FIRST))
        self.assertIsNotNone(self.check(EVEN, NONE, NONE))
        self.assertIsNotNone(self.check(EVEN, ((5, 1), (1, 3), (2, 1)), ((2, 1), (1, 3), ZERO)))
        self.assertEqual([], self.check(LONE, [ONE], [ONE]))
        self.assertEqual([], self.check(BARE, [ONE] * 4, [ZERO, ONE, ZERO, ONE]))
        self.told(None, unowed, LONE, [ONE], [(2, 1)])
        self.told(None, unowed, BARE, [ONE] * 4, [ZERO, (2, 1), ZERO, ONE])

    def test_several_pieces(self):
        purse = [(2, 1), ONE, ZERO, ONE, ZERO, ZERO]
        self.assertIsNotNone(self.check(SPLIT, purse, [ZERO, ZERO, (1, 20), ONE, (1, 100), ONE]))
        self.told(None, unowed, SPLIT, purse, [ZERO, ZERO, ZERO, (2, 1), ZERO, ZERO])

    def test_the_sixth_fact(self):
        numbers = []
        owing = 0
        for web, purse, wish in hard_cases(130, 250):
            moves = self.check(web, purse, wish)
            numbers.append(-1 if moves is None else len(moves))
            if moves:
                owing += owes(web, purse, sorted(moves)) is not None
        self.assertTrue(numbers.count(-1) > 30 and numbers.count(0) > 5)
        self.assertTrue(len([number for number in numbers if number > 3]) > 60)
        self.assertTrue(owing > 40)

    def test_webs_have_to_fit(self):
        self.refused(NotFit, {}, unowed, ODD, NONE, NONE)
        for wrong in wrong_rows(3):
            self.refused(NotFit, {}, unowed, ODD, wrong, wrong)
            self.refused(BadPurse, {}, unowed, EVEN, wrong, NONE)
            self.refused(BadPurse, {}, unowed, EVEN, wrong, None)
            self.refused(BadWish, {}, unowed, EVEN, NONE, wrong)


class IsUnowed(Case):
    def test_deals_that_never_owe(self):
        self.told(True, is_unowed, ROW, FIRST, (ZERO, ZERO, (1, 3)), [(0, 0, ONE), (1, 1, (1, 2))])
        self.told(True, is_unowed, ROW, FIRST, (ZERO, (1, 2), ZERO), [(0, 0, ONE)])
        self.told(True, is_unowed, ROW, FIRST, FIRST, [])
        self.told(False, is_unowed, ROW, FIRST, (ZERO, ZERO, (1, 3)), [(0, 0, ONE)])
        self.told(False, is_unowed, ROW, FIRST, (ZERO, ZERO, (1, 2)), [(0, 0, ONE), (1, 1, (1, 2))])
        self.told(False, is_unowed, ROW, FIRST, (ONE, ONE, ZERO), [])

    def test_deals_that_owe_meanwhile(self):
        wish = (ZERO, ZERO, (1, 3))
        deal = [(1, 1, (1, 2)), (0, 0, ONE)]
        self.assertIs(True, is_deal(ROW, FIRST, wish, deal))
        self.told(False, is_unowed, ROW, FIRST, wish, deal)
        self.told(True, is_unowed, ROW, (ONE, (1, 2), ZERO), wish, deal)
        self.told(False, is_unowed, ROW, (ONE, pair(Fraction(1, 2) - Fraction(1, LARGE)), ZERO), wish, deal)
        # What is owed at the end is owed too.
        self.told(False, is_unowed, ROW, NONE, NONE, [(0, 0, ONE)])

    def test_a_stall_used_twice(self):
        half = (1, 2)
        moves = [(0, 0, half), (0, 0, half), (1, 1, half)]
        self.told(True, is_unowed, ROW, FIRST, (ZERO, ZERO, (1, 3)), moves)
        there_and_back = [(0, 0, ONE), (0, 1, half)]
        self.told(True, is_unowed, ROW, FIRST, FIRST, there_and_back)
        self.told(False, is_unowed, ROW, NONE, NONE, there_and_back)

    def test_webs_that_do_not_fit(self):
        # Round the ring 1/4 of ware 0 can be had for nothing, but not without owing.
        wish = ((1, 4), ZERO, ZERO)
        deal = deal_for(ODD, NONE, wish)
        self.told(False, is_unowed, ODD, NONE, wish, deal)
        rich = ((10, 1),) * 3
        self.told(True, is_unowed, ODD, rich, ((41, 4), (10, 1), (10, 1)), deal)

    def test_by_the_words(self):
        chance = random.Random(131)
        answers = []
        for web, purse, wish in hard_cases(132, 150, 5):
            moves = deal_for(web, purse, wish)
            if moves:
                chance.shuffle(moves)
                wanted = min(min(has) for has in on_the_way(web, purse, moves)) >= 0
                self.told(wanted, is_unowed, web, purse, wish, moves)
                answers.append(wanted)
                rich = pairs([amount + chance.choice([0, 10]) for amount in worths(purse)])
                wanted = min(min(has) for has in on_the_way(web, rich, moves)) >= 0
                self.told(wanted, is_unowed, web, rich, wish, moves)
                answers.append(wanted)
        self.assertTrue(30 < answers.count(True) < len(answers) - 30)

    def test_wrong_things(self):
        wish = (ZERO, ZERO, (1, 3))
        moves = [(0, 0, ONE), (1, 1, (1, 2))]
        wrong = odd_things() + [
            tuple(moves), (moves[0],), [list(move) for move in moves], moves[:1], moves[1:],
            moves + [None], [(0, 0, ONE), (2, 1, (1, 2))], [(0, 2, ONE), (1, 1, (1, 2))],
            [(False, 0, ONE), (1, 1, (1, 2))], [(0, False, ONE), (1, 1, (1, 2))],
            [(0, 0, ONE), (True, 1, (1, 2))], [(0, 0, ONE), (-1, 1, (1, 2))],
        ]
        wrong += [moves + [thing] for thing in odd_things()]
        wrong += [[(0, 0, one), (1, 1, (1, 2))] for one in wrong_somes()]
        wrong += [[(one, 0, ONE), (1, 1, (1, 2))] for one in wrong_integers()]
        for thing in wrong:
            self.assertIs(False, is_unowed(ROW, FIRST, wish, thing))
        self.assertIs(True, is_unowed(ROW, FIRST, wish, moves))
        self.assertIs(True, is_unowed(LONE, [ZERO], [ZERO], []))
        self.assertIs(False, is_unowed(LONE, [ZERO], [ZERO], ()))

    def test_purses_and_wishes_are_asked(self):
        for web in (EVEN, ODD):
            for wrong in wrong_rows(3):
                self.refused(BadPurse, {}, is_unowed, web, wrong, NONE, [])
                self.refused(BadPurse, {}, is_unowed, web, wrong, None, None)
                self.refused(BadWish, {}, is_unowed, web, NONE, wrong, [])
                self.refused(BadWish, {}, is_unowed, web, NONE, wrong, None)


if __name__ == "__main__":
    unittest.main()
