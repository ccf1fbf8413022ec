"""Points 4.3 and 5.6: all rings of a web, the fewest stalls that make it uneven, and stars."""

import random
import unittest
from fractions import Fraction
from itertools import combinations

from rootstalls.errors import BadRing, NotFit, TooMany
from rootstalls.nothing import fit, is_uneven_ring
from rootstalls.rings import fewest_struck, rings, star, uneven_rings
from rootstalls.told import left_table
from rootstalls.webs import Web
from tests import oracle
from tests.samples import (
    BARE, EVEN, FULL, LARGE, LONE, ODD, ONE, SPLIT, Case, fitting_web, odd_things, webs, wrong_integers,
)

PAIR = Web(2, [(0, 1, ONE, ONE, ONE)])


def plain(wares, spans):
    """A web of stalls that hold 1 of both wares."""
    return Web(wares, [(one, other, ONE, ONE, ONE) for one, other in spans])


def with_unlike(web, index):
    """The web, one stall of which holds something else."""
    one, other = web.stalls[index][:2]
    stall = (one, other, (4, 1), ONE, (2, 1))
    return Web(web.wares, web.stalls[:index] + (stall,) + web.stalls[index + 1:])


# Each two of six wares have a stall: 197 rings.
SIX = plain(6, list(combinations(range(6), 2)))
JUST = plain(6, [
    (5, 1), (1, 3), (3, 4), (3, 2), (2, 5), (0, 2), (0, 3), (4, 5), (2, 1), (1, 5), (0, 1), (5, 4),
    (0, 5), (1, 4), (3, 5), (0, 5),
])
# Round seven wares, by 2 * 2 * 2 * 2 * 2 * 2 * 3 ways, and 9 rings of two stalls.
MORE = plain(7, [(at % 7, (at + 1) % 7) for at in range(14)] + [(0, 1)])


class Rings(Case):
    def test_by_hand(self):
        self.told([((0, 0), (1, 1), (2, 2))], rings, EVEN)
        self.told([], rings, LONE)
        self.told([], rings, BARE)
        self.told([], rings, PAIR)
        self.told([((0, 1), (1, 4))], rings, SPLIT)
        self.told([((0, 0), (1, 1)), ((0, 0), (2, 1)), ((1, 0), (2, 1))], rings, Web(2, PAIR.stalls * 3))

    def test_each_is_told_by_its_least_tuple(self):
        # The same ring, its stalls numbered and told otherwise.
        web = plain(4, [(2, 3), (3, 1), (1, 0), (0, 2)])
        self.told([((0, 2), (1, 3), (2, 1), (3, 0))], rings, web)
        web = plain(4, [(3, 2), (1, 0), (3, 1), (0, 2)])
        self.told([((0, 2), (2, 3), (1, 1), (3, 0))], rings, web)
        web = plain(3, [(2, 1), (2, 0), (0, 1)])
        self.told([((0, 1), (1, 2), (2, 0))], rings, web)

    def test_by_trying_all_rows_of_stalls(self):
        numbers = []
        for web in webs(90, 60, 5, 6):
            wanted = oracle.rings(web)
            self.told(wanted, rings, web)
            numbers.append(len(wanted))
        self.assertTrue(max(numbers) > 5 and numbers.count(0) > 5)

    def test_no_ware_comes_twice(self):
        web = plain(3, [(0, 1), (0, 1), (1, 2), (1, 2)])
        self.told([((0, 0), (1, 1)), ((2, 1), (3, 2))], rings, web)

    def test_eight_wares_and_16_stalls(self):
        round_web = plain(8, [(at, (at + 1) % 8) for at in range(8)])
        self.told([tuple((at, at) for at in range(8))], rings, round_web)
        found = rings(FULL)
        self.assertEqual(sorted(set(found)), found)
        for ring in found:
            self.assertTrue(oracle.is_ring(FULL, ring))
            self.assertEqual(ring, min(oracle.tellings(FULL, ring)))

    def test_200_rings_and_more(self):
        self.assertEqual(120, len(rings(Web(2, PAIR.stalls * 16))))
        self.assertEqual(197, len(rings(SIX)))
        found = rings(JUST)
        self.assertEqual(200, len(found))
        self.assertEqual(sorted(set(found)), found)
        for web in (MORE, Web(6, SIX.stalls + SIX.stalls[:1]), with_unlike(MORE, 14)):
            self.refused(TooMany, {"limit": 200}, rings, web)


class UnevenRings(Case):
    def test_by_hand(self):
        self.told([], uneven_rings, EVEN)
        self.told([((0, 0), (1, 1), (2, 2))], uneven_rings, ODD)
        self.told([], uneven_rings, LONE)
        self.told([], uneven_rings, Web(2, PAIR.stalls * 3))
        web = Web(2, PAIR.stalls * 2 + ((0, 1, (2, 1), (1, 2), ONE),))
        self.told([((0, 0), (2, 1)), ((1, 0), (2, 1))], uneven_rings, web)

    def test_the_uneven_ones_of_the_rings(self):
        for web in webs(91, 120, 5, 8):
            wanted = [ring for ring in rings(web) if is_uneven_ring(web, ring)]
            self.assertEqual(wanted, [ring for ring in rings(web) if oracle.quotient(web, ring) != 1])
            self.told(wanted, uneven_rings, web)
            self.assertEqual(fit(web) is not None, wanted == [])

    def test_too_many_rings_though_few_are_uneven(self):
        for web in (MORE, with_unlike(MORE, 3), Web(6, SIX.stalls + SIX.stalls[:1])):
            self.refused(TooMany, {"limit": 200}, uneven_rings, web)
        self.told([], uneven_rings, JUST)
        self.assertTrue(0 < len(uneven_rings(with_unlike(JUST, 3))) < 200)


class FewestStruck(Case):
    def test_by_hand(self):
        self.told((), fewest_struck, EVEN)
        self.told((0,), fewest_struck, ODD)
        self.told((), fewest_struck, LONE)
        self.told((), fewest_struck, BARE)
        self.told((2,), fewest_struck, Web(2, PAIR.stalls * 2 + ((0, 1, (2, 1), (1, 2), ONE),)))
        unlike = [(0, 1, (at, 1), (1, at), ONE) for at in range(1, 9)]
        self.told(tuple(range(7)), fewest_struck, Web(2, unlike))
        self.told((0, 1, 3, 4, 5, 7), fewest_struck, Web(2, unlike[:3] + unlike[3:6] + unlike[2:3] + unlike[6:7]))

    def test_the_least_of_several(self):
        # Each of stalls 1, 2, 3 would do; 0 hangs beside the ring.
        web = with_unlike(plain(4, [(3, 0), (0, 1), (1, 2), (0, 2)]), 3)
        self.told((1,), fewest_struck, web)
        two = Web(6, ODD.stalls + tuple((u + 3, v + 3, a, b, r) for u, v, a, b, r in ODD.stalls))
        self.told((0, 3), fewest_struck, two)
        # Two rings that share stall 2: it alone makes both uneven, and not the outer one.
        web = with_unlike(plain(4, [(0, 1), (1, 2), (0, 2), (2, 3), (0, 3)]), 2)
        self.told((2,), fewest_struck, web)

    def test_by_trying_all_parts(self):
        sizes = []
        for web in webs(92, 150, 5, 6):
            good = [
                part for many in range(len(web.stalls) + 1)
                for part in combinations(range(len(web.stalls)), many)
                if oracle.fit_numbers(Web(web.wares, [
                    stall for at, stall in enumerate(web.stalls) if at not in part
                ])) is not None
            ]
            wanted = min(good, key=lambda part: (len(part), part))
            self.told(wanted, fewest_struck, web)
            sizes.append(len(wanted))
        self.assertTrue(all(sizes.count(size) >= 5 for size in range(3)), sizes)


class Stars(Case):
    def test_by_hand(self):
        wanted = Web(4, [(3, ware, (3, 1), (3, 1), (3, 1)) for ware in range(3)])
        self.told(wanted, star, EVEN, (0, 1, 2))

    def test_the_words(self):
        # Ties 1, 2, 4 between wares with the numbers 1, 2, 1/2; a stall besides and one side by side.
        web = Web(4, [
            (1, 2, (1, 4), (4, 1), ONE), (0, 3, ONE, ONE, ONE), (2, 0, (4, 1), ONE, (2, 1)),
            (0, 2, ONE, (4, 1), (2, 1)), (0, 1, (4, 1), ONE, (2, 1)),
        ])
        numbers = oracle.fit_numbers(web)
        self.assertEqual([1, 2, Fraction(1, 2), 1], numbers)
        self.assertEqual([1, 1, 1, 1, 4], oracle.ties(web))
        found = star(web, (0, 2, 4))
        self.assertEqual(5, found.wares)
        self.assertEqual(web.stalls[1:2] + web.stalls[3:4], found.stalls[:2])
        self.assertEqual([(4, 0), (4, 1), (4, 2)], [stall[:2] for stall in found.stalls[2:]])
        # 1 * 1 + 1 * 4 + 4 * 1 is 9: over the tie between the other two 9 / 1, 9 / 1, 9 / 4.
        ties = oracle.ties(found)
        self.assertEqual([9, 9, Fraction(9, 4)], ties[2:])
        self.assertEqual(numbers + [1], oracle.fit_numbers(found))
        self.assertEqual(left_table(web, (0, 1, 2, 3)), left_table(found, (0, 1, 2, 3)))

    def test_the_number_of_the_new_ware_is_that_of_the_first_one(self):
        web = Web(4, [(0, 1, (3, 1), (1, 3), ONE), (1, 2, ONE, ONE, ONE), (2, 3, ONE, ONE, ONE),
                      (3, 1, ONE, ONE, ONE)])
        found = star(web, (1, 2, 3))
        self.assertEqual([1, 3, 3, 3, 3], oracle.fit_numbers(found))

    def test_fitting_webs(self):
        chance = random.Random(93)
        stars = 0
        while stars < 60:
            wares = chance.randint(3, 7)
            web = fitting_web(chance, wares, chance.randint(3, 16))
            for ring in rings_of_three(web)[:2]:
                stars += 1
                found = star(web, ring)
                self.told(found, star, web, ring)
                told = tuple(range(wares))
                self.assertEqual(left_table(web, told), left_table(found, told))
                numbers = oracle.fit_numbers(web)
                first = min(web.stalls[ring[0]][:2] + web.stalls[ring[1]][:2])
                self.assertEqual(numbers + [numbers[first]], oracle.fit_numbers(found))
                self.assertEqual(len(web.stalls), len(found.stalls))
                self.assertEqual([wares] * 3, [stall[0] for stall in found.stalls[-3:]])
                ends = [stall[1] for stall in found.stalls[-3:]]
                self.assertEqual(sorted(ends), ends)

    def test_7_wares_and_8(self):
        seven = plain(7, [(at, (at + 1) % 7) for at in range(7)] + [(0, 2)])
        self.assertEqual(8, star(seven, (0, 1, 7)).wares)
        eight = Web(8, seven.stalls)
        self.refused(TooMany, {"limit": 8}, star, eight, (0, 1, 7))
        self.refused(TooMany, {"limit": 8}, star, eight, None)
        self.refused(NotFit, {}, star, with_unlike(eight, 0), (0, 1, 7))
        self.refused(NotFit, {}, star, with_unlike(eight, 0), None)

    def test_large_numbers(self):
        big = (LARGE, 1)
        web = Web(3, [(0, 1, big, big, big), (1, 2, big, big, big), (0, 2, big, big, big)])
        self.assertEqual((3 * LARGE, 1), star(web, (0, 1, 2)).stalls[0][4])

    def test_webs_have_to_fit(self):
        self.refused(NotFit, {}, star, ODD, (0, 1, 2))
        for wrong in odd_things() + [(0, 1), (2, 1, 0)]:
            self.refused(NotFit, {}, star, ODD, wrong)

    def test_wrong_rings(self):
        web = plain(5, [(0, 1), (1, 2), (0, 2), (2, 3), (0, 1), (3, 4)])
        self.assertEqual(6, star(web, (0, 1, 2)).wares)
        self.assertEqual(6, star(web, (1, 2, 4)).wares)
        wrong = odd_things() + [
            0, [0, 1, 2], (0, 1), (0, 2, 1), (2, 1, 0), (0, 1, 1), (0, 0, 1), (0, 1, 2, 3), (0, 1, 3),
            (0, 1, 4), (0, 2, 4), (0, 4, 5), (3, 4, 5), (-1, 0, 1), (-6, 1, 2), (1, 2, 6), (0, 1, True),
            (False, 1, 2), (0, True, 2), (0, 1, 10 ** 400), ((0, 0), (1, 1), (2, 2)), "012", range(3),
            {0: 0, 1: 1, 2: 2}, (), (0, 3, 5), (1, 3, 5), (0,) * 99999,
        ]
        for thing in wrong + [(0, 1, one) for one in wrong_integers()]:
            self.refused(BadRing, {}, star, web, thing)
        turned = plain(4, [(0, 1), (1, 2), (1, 0), (0, 2), (2, 3), (3, 2)])
        for thing in [(0, 1, 2), (0, 2, 3), (1, 4, 5), (0, 1, 4), (3, 4, 5)]:
            self.refused(BadRing, {}, star, turned, thing)
        self.assertEqual(5, star(turned, (1, 2, 3)).wares)
        self.refused(BadRing, {}, star, LONE, (0, 1, 2))
        self.refused(BadRing, {}, star, Web(2, PAIR.stalls * 3), (0, 1, 2))


def rings_of_three(web):
    """The ascending triples of stalls that stand between each two of three wares."""
    found = []
    for part in combinations(range(len(web.stalls)), 3):
        spans = {tuple(sorted(web.stalls[index][:2])) for index in part}
        if len(spans) == 3 and len({ware for span in spans for ware in span}) == 3:
            found.append(part)
    return found


if __name__ == "__main__":
    unittest.main()
