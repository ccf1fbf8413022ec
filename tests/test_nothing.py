"""Points 4.1 and 4.2: webs that fit, uneven rings, and what can be had for nothing."""

import random
import unittest

from rootstalls.brims import brim
from rootstalls.deals import is_deal, moved, played
from rootstalls.errors import BadOrder, BadWare
from rootstalls.nothing import (
    fit, for_nothing, is_uneven_ring, taken_in, taking, uneven_pieces, uneven_ring,
)
from rootstalls.webs import Web, pieces
from tests import oracle
from tests.samples import (
    BARE, EVEN, FULL, LARGE, LONE, NONE, ODD, ONE, SPLIT, ZERO, Case, odd_things, pair, pairs, webs,
    worth, wrong_integers, wrong_orders, wrong_wares,
)

PAIR = Web(2, [(0, 1, ONE, ONE, ONE)])
# Two alike triangles, and two triangles of which the second one is even.
BOTH = Web(6, ODD.stalls + tuple((u + 3, v + 3, a, b, r) for u, v, a, b, r in ODD.stalls))
FIRST = Web(6, ODD.stalls + tuple((u + 3, v + 3, a, b, r) for u, v, a, b, r in EVEN.stalls))
# Two uneven rings of two stalls each that meet at ware 1.
EIGHT = Web(3, [
    (0, 1, ONE, ONE, ONE), (0, 1, (2, 1), (2, 1), (2, 1)), (2, 1, (1, 2), (2, 1), ONE),
    (1, 2, (3, 1), (1, 3), ONE),
])
SIDE = Web(2, [(0, 1, (2, 1), (1, 2), ONE), (1, 0, ONE, (4, 1), (2, 1))])
UNLIKE = Web(2, [(0, 1, (2, 1), (1, 2), ONE), (1, 0, (4, 1), ONE, (2, 1))])


def all_webs(seed, number):
    yield from (LONE, BARE, SPLIT, FULL, EVEN, ODD, PAIR, BOTH, FIRST, EIGHT, SIDE, UNLIKE, Web(8, []))
    yield from webs(seed, number, 8)


class Fits(Case):
    def test_by_hand(self):
        self.told((ONE, ONE, ONE), fit, EVEN)
        self.told(None, fit, ODD)
        self.told((ONE,), fit, LONE)
        self.told((ONE,) * 4, fit, BARE)
        self.told((ONE, (2, 1)), fit, Web(2, [(0, 1, (2, 1), (1, 2), ONE)]))
        self.told((ONE, (1, 2)), fit, Web(2, [(1, 0, (2, 1), (1, 2), ONE)]))
        self.told((ONE, (1, 2 * LARGE)), fit, Web(2, [(0, 1, ONE, (4 * LARGE ** 2, 1), (2 * LARGE, 1))]))

    def test_1_at_the_first_ware_of_each_piece(self):
        # 4 and 1 are one piece, 5, 0 and 2 another one, 3 stands alone.
        self.told((ONE, ONE, (2, 1), ONE, (4, 1), ONE), fit, SPLIT)

    def test_stalls_side_by_side(self):
        self.told((ONE, (2, 1)), fit, SIDE)
        self.told(None, fit, UNLIKE)
        self.told(None, fit, Web(2, SIDE.stalls * 7 + UNLIKE.stalls))
        self.told((ONE, (2, 1)), fit, Web(2, SIDE.stalls * 8))

    def test_by_passing_numbers_on(self):
        answers = []
        for web in all_webs(80, 250):
            numbers = oracle.fit_numbers(web)
            wanted = None if numbers is None else pairs(numbers)
            self.told(wanted, fit, web)
            answers.append(wanted is None)
        self.assertTrue(50 < answers.count(True) < 200)

    def test_each_stall_holds_what_the_numbers_ask(self):
        for web in all_webs(81, 100):
            numbers = fit(web)
            if numbers is not None:
                for stall in web.stalls:
                    for ware in stall[:2]:
                        other = oracle.beyond(stall, ware)
                        asked = worth(stall[4]) * worth(numbers[other]) / worth(numbers[ware])
                        self.assertEqual(asked, oracle.holds(stall, ware))


class UnevenRings(Case):
    def test_the_third_fact(self):
        found = 0
        for web in all_webs(82, 250):
            ring = uneven_ring(web)
            self.assertEqual(fit(web) is None, ring is not None)
            if ring is not None:
                found += 1
                self.told(ring, uneven_ring, web)
                self.assertTrue(oracle.is_ring(web, ring))
                self.assertNotEqual(1, oracle.quotient(web, ring))
                self.told(True, is_uneven_ring, web, ring)
        self.assertTrue(found > 50)

    def test_rings_of_two_stalls_and_of_eight(self):
        self.assertIn(uneven_ring(UNLIKE), oracle.tellings(UNLIKE, ((0, 0), (1, 1))))
        stalls = [(at, (at + 1) % 8, ONE, ONE, ONE) for at in range(7)] + [(0, 7, ONE, (4, 1), (2, 1))]
        web = Web(8, stalls)
        ring = tuple((at, at) for at in range(8))
        self.assertIn(uneven_ring(web), oracle.tellings(web, ring))

    def test_told_beginning_elsewhere_and_the_other_way_round(self):
        ring = ((0, 0), (1, 1), (2, 2))
        tellings = oracle.tellings(ODD, ring)
        self.assertEqual(6, len(set(tellings)))
        for telling in tellings:
            self.told(True, is_uneven_ring, ODD, telling)
            self.told(False, is_uneven_ring, EVEN, telling)

    def test_a_ware_may_come_twice(self):
        ring = ((0, 0), (2, 1), (3, 2), (1, 1))
        self.told(True, is_uneven_ring, EIGHT, ring)
        for telling in oracle.tellings(EIGHT, ring):
            self.told(True, is_uneven_ring, EIGHT, telling)
        # Here both halves are uneven, and the whole one is not.
        web = Web(3, [(0, 1, ONE, ONE, ONE), (0, 1, (2, 1), (1, 2), ONE), (2, 1, ONE, ONE, ONE),
                      (2, 1, (2, 1), (1, 2), ONE)])
        self.told(True, is_uneven_ring, web, ((0, 0), (1, 1)))
        self.told(True, is_uneven_ring, web, ((2, 1), (3, 2)))
        self.told(False, is_uneven_ring, web, ((0, 0), (2, 1), (3, 2), (1, 1)))
        self.told(True, is_uneven_ring, web, ((0, 0), (3, 1), (2, 2), (1, 1)))

    def test_by_the_words(self):
        chance = random.Random(83)
        answers = []
        for web in webs(83, 120, 4, 6):
            for ring in oracle.rings(web)[:6]:
                wanted = oracle.quotient(web, ring) != 1
                self.told(wanted, is_uneven_ring, web, ring)
                answers.append(wanted)
                at = chance.randrange(len(ring))
                index, ware = ring[at]
                self.told(False, is_uneven_ring, web, ring[:at] + ring[at + 1:])
                other = oracle.beyond(web.stalls[index], ware)
                self.told(False, is_uneven_ring, web, ring[:at] + ((index, other),) + ring[at + 1:])
        self.assertTrue(30 < answers.count(True) < len(answers) - 30)

    def test_stalls_only_once(self):
        ring = ((0, 0), (1, 1), (2, 2))
        self.told(False, is_uneven_ring, ODD, ring + ring)
        self.told(False, is_uneven_ring, PAIR, ((0, 0), (0, 1)))
        self.told(False, is_uneven_ring, PAIR, ((0, 0),))
        self.told(False, is_uneven_ring, UNLIKE, ((0, 0), (1, 1), (0, 0), (1, 1)))
        # There and back along one stall, round an uneven ring: its quotient alone is no ring's.
        web = Web(3, UNLIKE.stalls + ((1, 2, ONE, ONE, ONE),))
        self.told(False, is_uneven_ring, web, ((0, 0), (2, 1), (2, 2), (1, 1)))
        web = Web(3, web.stalls * 3)
        self.told(False, is_uneven_ring, web, ((0, 0), (2, 1), (2, 2), (1, 1)))
        self.told(True, is_uneven_ring, web, ((0, 0), (2, 1), (5, 2), (1, 1)))
        self.told(False, is_uneven_ring, web, ((0, 0), (1, 1)) * 2)
        self.told(True, is_uneven_ring, web, ((0, 0), (1, 1), (3, 0), (4, 1)))

    def test_the_wares_are_those_of_the_stalls(self):
        web = Web(3, [(1, 2, (2, 1), (1, 2), ONE), (0, 1, ONE, ONE, ONE), (0, 2, ONE, ONE, ONE)])
        self.told(True, is_uneven_ring, web, ((0, 1), (2, 2), (1, 0)))
        self.told(False, is_uneven_ring, web, ((0, 0), (1, 1)))
        self.told(False, is_uneven_ring, web, ((1, 1), (0, 0)))

    def test_wrong_things_are_no_rings(self):
        wrong = odd_things() + [
            0, 1, (), [], ((),), ((0, 0),), [(0, 0), (1, 1), (2, 2)], ([0, 0], (1, 1), (2, 2)),
            ((0, 0), (1, 1), (2, 2), (0, 0)), ((0, 0), (1, 1)), ((0, 0), (1, 1), (2, 0)),
            ((0, 0), (2, 1), (1, 2)), ((0, 1), (1, 1), (2, 2)), ((0, 0), (1, 1), (3, 2)),
            ((0, 0), (1, 1), (-1, 2)), ((0, 0), (1, 1), (2, 2, 2)), ((0, 0), (1, 1), (2,)),
            ((0, False), (1, 1), (2, 2)), ((False, 0), (1, 1), (2, 2)), ((0, 0), (True, 1), (2, 2)),
            ((0, 0), (1, True), (2, 2)), ((0, 0), (1, 1), (2, -1)), ((0, 0), (1, 1), (2, 10 ** 400)),
            {0: 0, 1: 1, 2: 2}, ("00", "11", "22"), ((0, 0), None, (2, 2)), ((0, 0),) * 99999,
        ]
        wrong += [((0, 0), (1, 1), one) for one in odd_things()]
        wrong += [((0, 0), (1, 1), (one, 2)) for one in wrong_integers()]
        wrong += [((0, 0), (1, 1), (2, one)) for one in wrong_integers()]
        for thing in wrong:
            self.assertIs(False, is_uneven_ring(ODD, thing))
        self.told(False, is_uneven_ring, LONE, ())
        self.told(False, is_uneven_ring, LONE, ((0, 0),))


class ForNothing(Case):
    def test_by_hand(self):
        for ware, most in enumerate([(1, 4), (1, 7), (1, 10)]):
            self.told(most, for_nothing, ODD, ware)
            self.told(most, for_nothing, BOTH, ware + 3)
            self.told(ZERO, for_nothing, EVEN, ware)
            self.told(most, for_nothing, FIRST, ware)
            self.told(ZERO, for_nothing, FIRST, ware + 3)
        self.told(ZERO, for_nothing, LONE, 0)
        self.told(ZERO, for_nothing, BARE, 3)

    def test_it_is_the_brim_of_the_empty_purse(self):
        for web in all_webs(84, 60):
            for ware in range(web.wares):
                self.told(brim(web, (ZERO,) * web.wares, ware), for_nothing, web, ware)

    def test_the_fourth_fact(self):
        for web in all_webs(85, 120):
            most = [for_nothing(web, ware) for ware in range(web.wares)]
            self.assertEqual(fit(web) is not None, most == [ZERO] * web.wares)

    def test_taking_brings_it_and_leaves_nothing_in_its_piece(self):
        for web in all_webs(86, 60):
            empty = [ZERO] * web.wares
            for ware in range(web.wares):
                deal = taking(web, ware)
                self.told(deal, taking, web, ware)
                most = for_nothing(web, ware)
                wish = [most if at == ware else ZERO for at in range(web.wares)]
                self.assertIs(True, is_deal(web, empty, wish, deal))
                behind, has = played(web, empty, deal)
                self.assertEqual(most, has[ware])
                piece = [wares for wares in pieces(web) if ware in wares][0]
                for other in range(web.wares):
                    wanted = ZERO if other in piece else for_nothing(web, other)
                    self.assertEqual(wanted, for_nothing(behind, other))
                for before, after in zip(web.stalls, behind.stalls):
                    if before[0] not in piece:
                        self.assertEqual(before, after)

    def test_taking_where_nothing_is_to_be_had(self):
        self.told([], taking, EVEN, 1)
        self.told([], taking, FIRST, 4)
        self.told([], taking, LONE, 0)
        self.told([], taking, SPLIT, 3)

    def test_wares_are_asked(self):
        for call in (for_nothing, taking):
            for wrong in wrong_wares(3):
                self.refused(BadWare, {}, call, EVEN, wrong)
            self.refused(BadWare, {}, call, LONE, 1)


class UnevenPieces(Case):
    def test_by_hand(self):
        self.told([], uneven_pieces, EVEN)
        self.told([(0, 1, 2)], uneven_pieces, ODD)
        self.told([(0, 1, 2), (3, 4, 5)], uneven_pieces, BOTH)
        self.told([(0, 1, 2)], uneven_pieces, FIRST)
        self.told([], uneven_pieces, SPLIT)
        self.told([], uneven_pieces, LONE)
        self.told([], uneven_pieces, Web(8, []))
        web = Web(6, SPLIT.stalls + ((0, 5, ONE, ONE, ONE), (4, 1, ONE, ONE, ONE)))
        self.told([(1, 4)], uneven_pieces, web)
        self.told([(0, 2, 5), (1, 4)], uneven_pieces, moved(web, (2, 0, ONE)))

    def test_pieces_in_which_something_can_be_had(self):
        for web in all_webs(87, 120):
            wanted = [
                piece for piece in pieces(web)
                if [ware for ware in piece if for_nothing(web, ware) != ZERO]
            ]
            self.told(wanted, uneven_pieces, web)


class TakenIn(Case):
    def test_by_hand(self):
        self.told([(1, 4), ZERO, ZERO], taken_in, ODD, (0, 1, 2))
        self.told([(1, 10), ZERO, ZERO], taken_in, ODD, (2, 0, 1))
        self.told([ZERO, ZERO, ZERO], taken_in, EVEN, (2, 0, 1))
        self.told([(1, 10), ZERO, (1, 7), ZERO, ZERO, ZERO], taken_in, BOTH, (5, 3, 1, 0, 2, 4))
        self.told([ZERO, ZERO, (1, 7), ZERO, ZERO, ZERO], taken_in, FIRST, (5, 3, 1, 0, 2, 4))
        self.told([ZERO], taken_in, LONE, (0,))

    def test_one_behind_another(self):
        chance = random.Random(88)
        somes = 0
        for web in all_webs(88, 60):
            order = list(range(web.wares))
            chance.shuffle(order)
            wanted, left = [], web
            for ware in order:
                wanted.append(for_nothing(left, ware))
                left = played(left, [ZERO] * web.wares, taking(left, ware))[0]
            somes += len([most for most in wanted if most != ZERO])
            self.told(wanted, taken_in, web, tuple(order))
        self.assertTrue(somes > 20)

    def test_orders_are_asked(self):
        for thing in wrong_orders():
            self.refused(BadOrder, {}, taken_in, ODD, thing)
        self.refused(BadOrder, {}, taken_in, LONE, ())
        self.refused(BadOrder, {}, taken_in, LONE, (False,))


if __name__ == "__main__":
    unittest.main()
