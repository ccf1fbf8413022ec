"""Points 5.5, 6.2 and 6.3: small webs, trees and two-tree forests listed, rooted forests."""

import random
import unittest
from fractions import Fraction
from itertools import combinations, permutations, product

from rootstalls.drags import trees, two_trees
from rootstalls.errors import BadPurse, BadTold, BadWare, NotFit, NotTied, TooMany
from rootstalls.forests import all_trees, all_two_trees, rooted, small_web
from rootstalls.nothing import fit
from rootstalls.striking import struck
from rootstalls.told import left_table
from rootstalls.webs import Web
from tests import oracle
from tests.samples import (
    BARE, EVEN, FULL, LARGE, LONE, NONE, ODD, ONE, SPLIT, ZERO, Case, fitting_web, pair, random_row,
    webs, worth, wrong_rows, wrong_told, wrong_wares,
)

PAIR = Web(2, [(0, 1, ONE, ONE, ONE)])


def plain(wares, spans):
    """A web of stalls that hold 1 of both wares."""
    return Web(wares, [(one, other, ONE, ONE, ONE) for one, other in spans])


STAR = plain(4, [(3, 0), (3, 1), (3, 2)])
ROUND = plain(8, [(at, (at + 1) % 8) for at in range(8)])
EIGHT = plain(8, [(0, at) for at in range(1, 8)])
TREES_200 = plain(6, [(0, 1)] * 5 + [(2, 1)] * 5 + [(2, 3)] * 2 + [(3, 4)] * 2 + [(4, 5)] * 2)
OTHER_TREES_200 = plain(5, [
    (0, 4), (4, 0), (1, 0), (0, 1), (2, 4), (0, 3), (2, 1), (3, 2), (3, 4), (4, 2), (4, 3), (2, 1),
])
TREES_201 = plain(7, [
    (5, 6), (2, 0), (0, 2), (2, 3), (3, 6), (0, 1), (5, 4), (5, 3), (3, 1), (4, 2), (0, 2), (0, 5),
])
FORESTS_200 = plain(6, [
    (1, 4), (2, 5), (4, 5), (2, 4), (5, 1), (3, 0), (4, 3), (3, 4), (5, 1), (2, 5), (2, 3), (3, 4),
])
FORESTS_201 = plain(6, [
    (2, 4), (1, 0), (2, 1), (5, 0), (5, 4), (4, 0), (3, 1), (3, 4), (3, 1), (4, 2), (4, 0), (0, 2),
    (3, 2), (1, 2),
])


def fitting(seed, number, most_wares, most_stalls=16):
    """Webs that fit, of all sizes."""
    chance = random.Random(seed)
    for _ in range(number):
        wares = chance.randint(1, most_wares)
        yield fitting_web(chance, wares, chance.randint(0, min(2 * wares, most_stalls)))


def is_tied(web):
    return len(oracle.joined_all(web)) == 1


class AllTrees(Case):
    def test_by_hand(self):
        self.told([(0, 1), (0, 2), (1, 2)], all_trees, EVEN)
        self.told([(0, 1), (0, 2), (1, 2)], all_trees, ODD)
        self.told([()], all_trees, LONE)
        self.told([(0,)], all_trees, PAIR)
        self.told([(at,) for at in range(16)], all_trees, Web(2, PAIR.stalls * 16))
        self.told([(0, 1, 2)], all_trees, STAR)
        self.told([(0, 2), (1, 2)], all_trees, plain(3, [(0, 1), (1, 0), (2, 1)]))

    def test_eight_wares(self):
        wanted = [tuple(at for at in range(8) if at != gone) for gone in range(7, -1, -1)]
        self.told(wanted, all_trees, ROUND)
        self.told([tuple(range(7))], all_trees, EIGHT)

    def test_by_trying_all_sets(self):
        for web in webs(120, 120, 6, 8):
            wanted = [indexes for indexes, _ in oracle.forests(web, web.wares - 1)]
            if is_tied(web):
                self.told(wanted, all_trees, web)
                self.assertTrue(len(wanted) > 0)
            else:
                self.refused(NotTied, {}, all_trees, web)

    def test_200_trees_and_more(self):
        for web in (TREES_200, OTHER_TREES_200):
            found = all_trees(web)
            self.assertEqual(200, len(found))
            self.told([indexes for indexes, _ in oracle.forests(web, web.wares - 1)], all_trees, web)
        for web in (TREES_201, FULL, plain(5, [(at // 4, at // 4 + 1) for at in range(16)])):
            self.refused(TooMany, {"limit": 200}, all_trees, web)
        self.refused(NotTied, {}, all_trees, Web(8, TREES_201.stalls))

    def test_trees_listed_and_their_sum(self):
        for web in fitting(121, 80, 6, 9):
            if is_tied(web):
                ties = oracle.ties(web)
                total = sum(oracle.product_of(ties[at] for at in tree) for tree in all_trees(web))
                self.assertEqual(total, worth(trees(web)))
        self.assertEqual((200, 1), trees(TREES_200))


class AllTwoTrees(Case):
    def test_by_hand(self):
        self.told([(1,), (2,)], all_two_trees, EVEN, 0, 1)
        self.told([(0,), (1,)], all_two_trees, ODD, 2, 0)
        self.told([()], all_two_trees, PAIR, 0, 1)
        self.told([()], all_two_trees, Web(2, PAIR.stalls * 16), 1, 0)
        self.told([(0, 2), (1, 2)], all_two_trees, STAR, 0, 1)
        self.told([(1, 2)], all_two_trees, STAR, 0, 3)

    def test_eight_wares(self):
        found = all_two_trees(ROUND, 0, 4)
        self.assertEqual(16, len(found))
        self.assertEqual(sorted(set(found)), found)
        self.told([tuple(range(1, 7))], all_two_trees, EIGHT, 0, 1)
        self.told([tuple(range(6))], all_two_trees, EIGHT, 7, 0)

    def test_by_trying_all_sets(self):
        for web in webs(122, 80, 5, 7):
            for one, other in permutations(range(web.wares), 2):
                wanted = [
                    indexes for indexes, groups in oracle.forests(web, web.wares - 2)
                    if not [group for group in groups if one in group and other in group]
                ]
                if is_tied(web):
                    self.told(wanted, all_two_trees, web, one, other)
                else:
                    self.refused(NotTied, {}, all_two_trees, web, one, other)

    def test_200_forests_and_more(self):
        self.assertEqual(200, len(all_two_trees(FORESTS_200, 0, 1)))
        self.refused(TooMany, {"limit": 200}, all_two_trees, FORESTS_201, 0, 1)
        self.refused(TooMany, {"limit": 200}, all_two_trees, FORESTS_201, 1, 0)
        self.refused(BadWare, {}, all_two_trees, FORESTS_201, 1, 1)
        # All forests without rings are more than 200, those of these two wares alone are fewer.
        spans = [(1, 2), (2, 3), (3, 4), (4, 0), (1, 3), (2, 4), (2, 0)]
        web = plain(5, [(0, 1)] * 9 + spans)
        self.assertTrue(len(oracle.forests(web, 3)) > 200)
        found = all_two_trees(web, 0, 1)
        self.assertTrue(0 < len(found) <= 35)
        self.assertEqual([indexes for indexes in found if min(indexes) >= 9], found)

    def test_forests_listed_and_their_sum(self):
        for web in fitting(123, 60, 5, 8):
            if is_tied(web):
                ties = oracle.ties(web)
                for one, other in combinations(range(web.wares), 2):
                    found = all_two_trees(web, one, other)
                    total = sum(oracle.product_of(ties[at] for at in indexes) for indexes in found)
                    self.assertEqual(total, worth(two_trees(web, one, other)))

    def test_webs_of_several_pieces_and_wrong_wares(self):
        for web in (BARE, SPLIT, Web(3, PAIR.stalls), Web(8, [])):
            self.refused(NotTied, {}, all_trees, web)
            self.refused(NotTied, {}, all_two_trees, web, 0, 1)
            self.refused(NotTied, {}, all_two_trees, web, 1, 1)
            self.refused(NotTied, {}, all_two_trees, web, None, 99)
        for web in (EVEN, ODD):
            for wrong in wrong_wares(3):
                self.refused(BadWare, {}, all_two_trees, web, wrong, 1)
                self.refused(BadWare, {}, all_two_trees, web, 1, wrong)
            for ware in range(3):
                self.refused(BadWare, {}, all_two_trees, web, ware, ware)
        self.refused(BadWare, {}, all_two_trees, LONE, 0, 0)
        self.refused(BadWare, {}, all_two_trees, LONE, 0, 1)


class Rooted(Case):
    def by_listing(self, web, gifts):
        """The words of 6.3, with Python's fractions."""
        numbers, ties = oracle.fit_numbers(web), oracle.ties(web)
        worths = [worth(gift) * number ** 2 for gift, number in zip(gifts, numbers)]
        total = 0
        for many in range(web.wares):
            for indexes, groups in oracle.forests(web, many):
                for marks in product(*groups):
                    total += oracle.product_of(
                        [ties[at] for at in indexes] + [worths[mark] for mark in marks]
                    )
        return total

    def test_by_hand(self):
        self.told(ZERO, rooted, EVEN, NONE)
        self.told((3, 1), rooted, EVEN, (ONE, ZERO, ZERO))
        self.told((16, 1), rooted, EVEN, [ONE, ONE, ONE])
        self.told((7, 2), rooted, LONE, [(7, 2)])
        self.told(ZERO, rooted, LONE, (ZERO,))
        self.told((6, 1), rooted, Web(2, []), [(2, 1), (3, 1)])
        self.told(ZERO, rooted, Web(2, []), [(2, 1), ZERO])
        self.told((11, 1), rooted, PAIR, [(2, 1), (3, 1)])
        # The number of ware 1 is 2: its gift is worth 12, and the tie is 2.
        steep = Web(2, [(0, 1, (2, 1), (1, 2), ONE)])
        self.told((52, 1), rooted, steep, [(2, 1), (3, 1)])

    def test_gifts_of_nothing_of_one_ware_and_of_all(self):
        for web in fitting(124, 40, 5, 7):
            self.told(ZERO, rooted, web, [ZERO] * web.wares)
            self.told(ZERO, rooted, web, (ZERO,) * web.wares)
            for ware in range(web.wares):
                gifts = [(3, 2) if at == ware else ZERO for at in range(web.wares)]
                self.told(pair(self.by_listing(web, gifts)), rooted, web, gifts)
            gifts = [pair(Fraction(at + 1, 2)) for at in range(web.wares)]
            self.told(pair(self.by_listing(web, gifts)), rooted, web, gifts)

    def test_by_listing_them(self):
        chance = random.Random(125)
        somes = 0
        for web in fitting(125, 60, 5, 7):
            gifts = random_row(chance, web.wares)
            total = self.by_listing(web, gifts)
            self.told(pair(total), rooted, web, gifts)
            somes += total > 0
        self.assertTrue(20 < somes)

    def test_the_product_of_the_slants_struck(self):
        chance = random.Random(126)
        for web in fitting(126, 80, 8):
            gifts = random_row(chance, web.wares)
            order = list(range(web.wares))
            chance.shuffle(order)
            slants = struck(web, gifts, [ZERO] * web.wares, tuple(order))[1]
            numbers = oracle.fit_numbers(web)
            total = oracle.product_of(
                worth(slant) * numbers[ware] ** 2 for ware, slant in zip(order, slants)
            )
            self.told(pair(total), rooted, web, gifts)

    def test_large_numbers(self):
        web = Web(2, [(0, 1, (LARGE, 1), (1, LARGE), ONE)])
        self.told((LARGE ** 2, 1), rooted, web, [(LARGE, 1), ZERO])

    def test_wrong_ones(self):
        for wrong in wrong_rows(3):
            self.refused(BadPurse, {}, rooted, EVEN, wrong)
            self.refused(NotFit, {}, rooted, ODD, wrong)
        self.refused(NotFit, {}, rooted, ODD, NONE)
        self.refused(BadPurse, {}, rooted, LONE, [])


class SmallWebs(Case):
    def test_by_hand(self):
        half = (1, 2)
        self.told(Web(4, [(0, 1, half, half, half)]), small_web, STAR, (0, 1))
        third = (1, 3)
        ring = [(one, other, third, third, third) for one, other in [(0, 1), (0, 2), (1, 2)]]
        self.told(Web(4, ring), small_web, STAR, (0, 1, 2))
        self.told(Web(4, [(at, 3, ONE, ONE, ONE) for at in range(3)]), small_web, STAR, (0, 1, 2, 3))
        self.told(Web(2, [(0, 1, (3, 1), (3, 1), (3, 1))]), small_web, Web(2, PAIR.stalls * 3), (0, 1))
        self.told(Web(2, [(0, 1, (1, 2), (2, 1), ONE)]), small_web, Web(2, [(1, 0, (2, 1), (1, 2), ONE)]), (0, 1))

    def test_one_told_ware(self):
        for web in (STAR, EVEN, LONE, SPLIT, ROUND):
            for ware in range(web.wares):
                self.told(Web(web.wares, []), small_web, web, (ware,))

    def test_several_pieces(self):
        found = small_web(SPLIT, (0, 1, 2, 3, 4, 5))
        self.assertEqual([(0, 2), (0, 5), (1, 4)], [stall[:2] for stall in found.stalls])
        found = small_web(SPLIT, (1, 2, 4, 5))
        self.assertEqual([(1, 4), (2, 5)], [stall[:2] for stall in found.stalls])
        self.told(Web(6, []), small_web, SPLIT, (0, 1, 3))

    def test_it_fits_and_has_the_same_left_table(self):
        for web in fitting(127, 80, 6):
            numbers = oracle.fit_numbers(web)
            for told in oracle.parts(range(web.wares))[1:]:
                found = small_web(web, told)
                self.told(found, small_web, web, told)
                self.assertEqual(left_table(web, told), left_table(found, told))
                self.assertIsNotNone(fit(found))
                spans = [stall[:2] for stall in found.stalls]
                self.assertEqual(sorted(set(spans)), spans)
                for one, other, held, other_held, root in found.stalls:
                    self.assertTrue(one < other and one in told and other in told)
                    self.assertEqual(worth(held) * numbers[one], worth(root) * numbers[other])
                    self.assertEqual(worth(other_held) * numbers[other], worth(root) * numbers[one])

    def test_all_wares_told(self):
        web = plain(5, combinations(range(5), 2))
        self.told(web, small_web, web, tuple(range(5)))
        turned = Web(5, [(other, one) + stall[2:] for stall in web.stalls[::-1] for one, other in [stall[:2]]])
        self.told(web, small_web, turned, tuple(range(5)))

    def test_16_stalls_and_more(self):
        six = plain(6, combinations(range(6), 2))
        self.told(six, small_web, six, tuple(range(6)))
        # Seven wares round an eighth one: each two of them are felt to be tied.
        self.refused(TooMany, {"limit": 16}, small_web, EIGHT, tuple(range(1, 8)))
        self.assertEqual(15, len(small_web(EIGHT, tuple(range(1, 7))).stalls))
        self.assertEqual(7, len(small_web(EIGHT, tuple(range(8))).stalls))
        # Just 16: six wares round a seventh one, and the seventh tied to an eighth one by one of them.
        web = plain(8, [(0, at) for at in range(1, 7)] + [(1, 7)])
        self.assertEqual(16, len(small_web(web, tuple(range(1, 8))).stalls))
        web = plain(8, [(0, at) for at in range(1, 7)] + [(1, 7), (2, 7)])
        self.refused(TooMany, {"limit": 16}, small_web, web, tuple(range(1, 8)))

    def test_wrong_ones(self):
        for wrong in wrong_told():
            self.refused(BadTold, {}, small_web, EVEN, wrong)
            self.refused(NotFit, {}, small_web, ODD, wrong)
        self.refused(NotFit, {}, small_web, ODD, (0, 1))
        self.refused(BadTold, {}, small_web, EIGHT, tuple(range(1, 9)))


if __name__ == "__main__":
    unittest.main()
