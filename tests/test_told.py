"""Points 5.1 to 5.4: left tables of told wares, partings, unfelt stalls, merged wares."""

import random
import unittest
from fractions import Fraction
from itertools import combinations

from rootstalls.errors import BadIndex, BadTold, BadWare, NotApart, TooMany
from rootstalls.told import is_parting, left_table, merged, parting, tilt, trials, unfelt, without
from rootstalls.webs import Web, held, roots
from tests import oracle
from tests.samples import (
    BARE, EVEN, FULL, LARGE, LONE, ODD, ONE, SPLIT, ZERO, Case, odd_things, pair, pairs, random_row,
    spoilt_web, webs, worth, wrong_amounts, wrong_integers, wrong_told, wrong_tuples, wrong_wares,
)

PAIR = Web(2, [(0, 1, ONE, ONE, ONE)])
STAR = Web(4, [(3, ware, ONE, ONE, ONE) for ware in range(3)])
HALF = (1, 2)


def tolds(web):
    """All told wares of a web."""
    return [part for part in oracle.parts(range(web.wares)) if part]


def wide(web, told, row):
    """A row of told wares for all wares, the others being 0."""
    return [row[told.index(ware)] if ware in told else ZERO for ware in range(web.wares)]


def met(web, told, purse, wish):
    rows = oracle.matrix(web, wide(web, told, purse), wide(web, told, wish))
    return oracle.can_all_be_struck(rows)


class LeftTables(Case):
    def test_by_hand(self):
        self.told(((HALF, HALF), ((ZERO, HALF), (HALF, ZERO))), left_table, STAR, (0, 1))
        self.told((((2, 3), ) * 3, ((ZERO, (1, 3), (1, 3)), ((1, 3), ZERO, (1, 3)), ((1, 3), (1, 3), ZERO))),
                  left_table, STAR, (0, 1, 2))
        self.told(((ZERO,), ((ZERO,),)), left_table, STAR, (2,))
        self.told((((1, 7),), ((ZERO,),)), left_table, ODD, (1,))
        self.told(((ZERO,), ((ZERO,),)), left_table, LONE, (0,))
        self.told(((ZERO, ZERO), ((ZERO, ZERO), (ZERO, ZERO))), left_table, BARE, (1, 3))

    def test_unlike_pieces(self):
        self.told(((ZERO, ZERO), ((ZERO, ZERO), (ZERO, ZERO))), left_table, SPLIT, (1, 3))
        four = ((ZERO,) * 3, (ZERO, ZERO, (4, 1)), (ZERO, (4, 1), ZERO))
        self.told(((ZERO, (16, 1), ONE), four), left_table, SPLIT, (0, 1, 4))

    def test_all_wares_told(self):
        for web in list(webs(100, 40, 6)) + [FULL, SPLIT]:
            self.told((held(web), roots(web)), left_table, web, tuple(range(web.wares)))

    def test_by_striking_otherwise(self):
        for web in list(webs(101, 60)) + [SPLIT, EVEN, ODD]:
            for told in tolds(web):
                self.told(oracle.left(web, told), left_table, web, told)
        for told in [(0,), (7,), (0, 7), (2, 3, 5), (0, 1, 2, 3, 4, 5, 6)]:
            self.told(oracle.left(FULL, told), left_table, FULL, told)

    def test_large_numbers(self):
        web = Web(2, [(0, 1, (LARGE, 1), (1, LARGE), ONE), (0, 1, ONE, ONE, ONE)])
        slant = pair(Fraction(LARGE + 1) - 4 / (1 + Fraction(1, LARGE)))
        self.told(((slant,), ((ZERO,),)), left_table, web, (0,))

    def test_told_wares_are_asked(self):
        for call in (left_table, unfelt):
            for wrong in wrong_told():
                self.refused(BadTold, {}, call, EVEN, wrong)
            self.refused(BadTold, {}, call, LONE, (1,))
            self.refused(BadTold, {}, call, LONE, (0, 1))


class Partings(Case):
    def check(self, one, other, told):
        """What parting tells of two webs, held against tables that were struck otherwise."""
        thing = parting(one, other, told)
        alike = oracle.left(one, told) == oracle.left(other, told)
        self.assertEqual(alike, thing is None)
        if thing is not None:
            purse, wish, flag = thing
            for row in (purse, wish):
                self.assertIs(tuple, type(row))
                self.assertEqual(len(told), len(row))
                self.assertTrue(all(worth(amount) >= 0 for amount in row))
            self.assertIs(bool, type(flag))
            self.assertEqual((flag, not flag), (met(one, told, purse, wish), met(other, told, purse, wish)))
            self.told(thing, parting, one, other, told)
            self.told(True, is_parting, one, other, told, thing)
            self.told(True, is_parting, other, one, told, (purse, wish, not flag))
            self.told(False, is_parting, one, other, told, (purse, wish, not flag))
            self.told(False, is_parting, one, one, told, (purse, wish, flag))
        return thing

    def test_alike(self):
        self.told(None, parting, EVEN, EVEN, (0, 1, 2))
        self.told(None, parting, EVEN, Web(5, EVEN.stalls), (0, 1, 2))
        self.told(None, parting, LONE, BARE, (0,))
        self.told(None, parting, STAR, merged(STAR, 3), (0, 1, 2))
        self.told(None, parting, STAR, BARE, (2,))
        self.told(None, parting, PAIR, Web(2, [(1, 0, HALF, HALF, HALF)] * 2), (0, 1))

    def test_unlike(self):
        self.assertIsNotNone(self.check(EVEN, ODD, (0, 1, 2)))
        self.assertIsNotNone(self.check(ODD, EVEN, (0,)))
        self.assertIsNotNone(self.check(STAR, merged(STAR, 3), (0, 1, 2, 3)))
        self.assertIsNotNone(self.check(PAIR, Web(2, []), (0, 1)))
        self.assertIsNotNone(self.check(Web(2, []), PAIR, (0, 1)))
        self.assertIsNone(self.check(Web(2, []), PAIR, (1,)))

    def test_tables_unlike_in_one_place(self):
        # Each slant and each root by itself: with stalls to wares that are told, and that are not.
        base = Web(4, EVEN.stalls)
        for one, other in combinations(range(3), 2):
            more = Web(4, base.stalls + ((one, other, ONE, ONE, ONE),))
            self.assertIsNotNone(self.check(base, more, (0, 1, 2)))
            self.assertIsNotNone(self.check(more, base, (0, 1, 2)))
        # Stalls to a ware that is not told raise one slant alone where they do not fit each other.
        for ware in range(3):
            richer = Web(4, base.stalls + ((ware, 3, ONE, ONE, ONE), (ware, 3, (4, 1), ONE, (2, 1))))
            self.assertIsNotNone(self.check(base, richer, (0, 1, 2)))
            self.assertIsNotNone(self.check(richer, base, (ware,)))

    def test_tables_that_all_even_weights_tilt_alike(self):
        # One holds more of ware 0, the other one less of ware 1: by weights of 1 both tilt alike.
        one = Web(3, [(0, 2, (2, 1), HALF, ONE), (0, 2, HALF, (2, 1), ONE), (1, 2, ONE, ONE, ONE)])
        other = Web(3, [(1, 2, (2, 1), HALF, ONE), (1, 2, HALF, (2, 1), ONE), (0, 2, ONE, ONE, ONE)])
        self.assertIsNotNone(self.check(one, other, (0, 1)))
        self.assertIsNotNone(self.check(other, one, (0, 1)))
        # More of both slants, and a root that is greater by as much.
        one = Web(2, [(0, 1, ONE, ONE, ONE)])
        self.assertIsNotNone(self.check(one, Web(2, one.stalls * 2), (0, 1)))
        for at in range(1, 6):
            for many in range(1, 6):
                one = Web(3, [(0, 1, (at, 1), pair(Fraction(many * many, at)), (many, 1)),
                              (1, 2, ONE, ONE, ONE)])
                self.check(one, EVEN, (0, 1))
                self.check(one, EVEN, (0, 1, 2))

    def test_some_weights_tilt_unlike_tables_unlike(self):
        # Small tables of all kinds, and one that no weights tilt but those of two wares or of 3.
        chance = random.Random(106)
        for number in range(1, 5):
            flat = (pairs([0] * number), (pairs([0] * number),) * number)
            for _ in range(60):
                slants = [chance.choice([0, 0, 0, 1, -1]) for _ in range(number)]
                rows = [[0] * number for _ in range(number)]
                for one, other in combinations(range(number), 2):
                    rows[one][other] = rows[other][one] = chance.choice([0, 0, 0, 1, -1])
                self.check_tilts(flat, (pairs(slants), tuple(pairs(row) for row in rows)))
        flat = (pairs([0] * 3), (pairs([0] * 3),) * 3)
        self.check_tilts(flat, (pairs([2, -2, 0]), (pairs([0, 0, 3]), pairs([0, 0, -3]), pairs([3, -3, 0]))))

    def check_tilts(self, flat, table):
        found = [weights for weights in trials(len(table[0])) if tilt(table, weights) != tilt(flat, weights)]
        self.assertEqual(table == flat, found == [])
        self.assertTrue(all(worth(weight) > 0 for weights in found for weight in weights))

    def test_many(self):
        chance = random.Random(102)
        flags = []
        for web in webs(102, 80):
            other = [one for one in webs(chance.randint(0, 10 ** 6), 3, 5)][-1]
            if web.stalls and chance.random() < 0.5:
                other = spoilt_web(chance, web)
            wares = min(web.wares, other.wares)
            for told in oracle.parts(range(wares))[1:]:
                thing = self.check(web, other, told)
                flags.append(None if thing is None else thing[2])
        self.assertTrue(all(flags.count(flag) > 30 for flag in (None, True, False)), flags)

    def test_the_fifth_fact(self):
        chance = random.Random(103)
        for web in webs(103, 60):
            told = chance.choice(tolds(web))
            other = Web(8, web.stalls)
            rest = [ware for ware in range(web.wares) if ware not in told]
            if rest:
                beside = [at for at, stall in enumerate(web.stalls) if rest[0] in stall[:2]]
                if beside and len(beside) == len({oracle.beyond(web.stalls[at], rest[0]) for at in beside}):
                    other = merged(web, rest[0])
            self.assertEqual(left_table(web, told), left_table(other, told))
            self.told(None, parting, web, other, told)
            for _ in range(10):
                purse, wish = [random_row(chance, len(told)) for _ in range(2)]
                self.assertEqual(met(web, told, purse, wish), met(other, told, purse, wish))
                thing = (tuple(purse), tuple(wish), chance.random() < 0.5)
                self.told(False, is_parting, web, other, told, thing)

    def test_what_is_a_parting(self):
        # EVEN gives 3/5 of ware 1 for 1 of ware 0; PAIR, with ware 2 told by nobody, gives 1/2.
        three = Web(3, PAIR.stalls)
        told = (0, 1)
        between = pair(Fraction(11, 20))
        self.told(True, is_parting, EVEN, three, told, ((ONE, ZERO), (ZERO, between), True))
        self.told(True, is_parting, three, EVEN, told, ((ONE, ZERO), (ZERO, between), False))
        self.told(True, is_parting, EVEN, PAIR, told, ((ONE, ZERO), (ZERO, (3, 5)), True))
        self.told(False, is_parting, EVEN, three, told, ((ONE, ZERO), (ZERO, between), False))
        self.told(False, is_parting, EVEN, three, told, ((ONE, ZERO), (ZERO, HALF), True))
        self.told(False, is_parting, EVEN, three, told, ((ONE, ZERO), (ZERO, HALF), False))
        missed = pair(Fraction(3, 5) + Fraction(1, LARGE))
        self.told(False, is_parting, EVEN, three, told, ((ONE, ZERO), (ZERO, missed), True))
        self.told(False, is_parting, EVEN, three, told, ((ONE, ZERO), (ZERO, missed), False))

    def test_wares_that_are_not_the_first_ones(self):
        one = Web(4, [(3, 1, ONE, ONE, ONE)])
        other = Web(5, [(3, 1, (2, 1), (2, 1), (2, 1))])
        self.told(True, is_parting, other, one, (1, 3), ((ZERO, ONE), ((2, 3), ZERO), True))
        self.told(False, is_parting, other, one, (1, 3), ((ONE, ZERO), ((2, 3), ZERO), True))
        self.assertIsNotNone(self.check(one, other, (1, 3)))
        self.assertIsNone(self.check(one, other, (0, 2)))

    def test_wrong_things_are_no_partings(self):
        three = Web(3, PAIR.stalls)
        purse, wish = (ONE, ZERO), (ZERO, (11, 20))
        self.assertIs(True, is_parting(EVEN, three, (0, 1), (purse, wish, True)))
        wrong = odd_things() + [
            [purse, wish, True], (purse, wish), (purse, wish, True, True), (purse, wish, 1),
            (purse, wish, None), (purse, wish, ONE), (list(purse), wish, True), (purse, list(wish), True),
            (purse + (ZERO,), wish, True), (purse, wish + (ZERO,), True), (purse[:1], wish, True),
            (wish, purse, True), (True, wish, purse), (purse, (ZERO, (-11, 20)), True), ((), (), True),
        ]
        wrong += [(one, wish, True) for one in wrong_tuples(2)]
        wrong += [(purse, one, True) for one in wrong_tuples(2)]
        wrong += [(purse, wish, one) for one in odd_things() if one is not True]
        wrong += [((ONE, one), wish, True) for one in wrong_amounts()]
        for thing in wrong:
            self.assertIs(False, is_parting(EVEN, three, (0, 1), thing))
        self.assertIs(False, is_parting(three, EVEN, (0, 1), (purse, wish, 0)))

    def test_told_wares_of_both_are_asked(self):
        for wrong in wrong_told():
            for one, other in [(EVEN, ODD), (EVEN, BARE), (BARE, EVEN), (EVEN, EVEN)]:
                self.refused(BadTold, {}, parting, one, other, wrong)
                self.refused(BadTold, {}, is_parting, one, other, wrong, None)
        for one, other in [(EVEN, LONE), (LONE, EVEN), (PAIR, FULL), (BARE, LONE)]:
            self.refused(BadTold, {}, parting, one, other, (0, 2))
            self.refused(BadTold, {}, is_parting, one, other, (0, 2), ((ZERO, ONE), (ONE, ZERO), True))


class Unfelt(Case):
    def test_by_hand(self):
        self.told((), unfelt, EVEN, (0, 1, 2))
        self.told((2,), unfelt, STAR, (0, 1))
        self.told((0, 1, 2), unfelt, STAR, (0,))
        self.told((0, 1, 2), unfelt, STAR, (3,))
        self.told((), unfelt, STAR, (0, 1, 2))
        self.told((), unfelt, LONE, (0,))
        self.told((0, 1, 2, 3), unfelt, SPLIT, (3,))
        self.told((2, 3), unfelt, SPLIT, (1, 4))

    def test_a_ware_that_hangs_by_one_stall(self):
        # Ware 3 hangs by one stall, and ware 4 by it: neither is felt unless it is told.
        web = Web(5, ODD.stalls + ((3, 2, (7, 1), (1, 7), ONE), (3, 4, ONE, (9, 1), (3, 1))))
        self.told((3, 4), unfelt, web, (0, 1, 2))
        self.told((3, 4), unfelt, web, (0, 2))
        self.told((4,), unfelt, web, (0, 3))
        self.told((), unfelt, web, (0, 4))

    def test_each_by_itself(self):
        # Any one of an even ring can go if one ware alone is told, though not all three felt apart.
        self.told((0, 1, 2), unfelt, EVEN, (1,))
        self.told((), unfelt, ODD, (1,))

    def test_by_leaving_each_out(self):
        sizes = []
        for web in list(webs(104, 60, 5)) + [SPLIT]:
            for told in tolds(web):
                table = oracle.left(web, told)
                wanted = tuple(
                    index for index in range(len(web.stalls))
                    if oracle.left(Web(web.wares, web.stalls[:index] + web.stalls[index + 1:]), told) == table
                )
                self.told(wanted, unfelt, web, told)
                sizes.append((len(wanted) > 0, len(wanted) < len(web.stalls)))
        self.assertTrue(sizes.count((True, True)) > 20 and sizes.count((False, True)) > 20)

    def test_without(self):
        self.told(Web(3, EVEN.stalls[1:]), without, EVEN, 0)
        self.told(Web(3, EVEN.stalls[:2]), without, EVEN, 2)
        self.told(Web(2, []), without, PAIR, 0)
        self.told(Web(2, PAIR.stalls * 3), without, Web(2, PAIR.stalls * 4), 1)
        self.told(Web(3, (ODD.stalls[0], ODD.stalls[2])), without, ODD, 1)

    def test_indexes_are_asked(self):
        for wrong in wrong_integers() + [-1, 3, 16, -10 ** 400, 10 ** 400]:
            self.refused(BadIndex, {}, without, EVEN, wrong)
        self.refused(BadIndex, {}, without, LONE, 0)


class Merged(Case):
    def test_by_hand(self):
        third = (1, 3)
        ring = Web(4, [(one, other, third, third, third) for one, other in [(0, 1), (0, 2), (1, 2)]])
        self.told(ring, merged, STAR, 3)
        web = Web(4, [
            (2, 3, (8, 1), HALF, (2, 1)), (0, 1, ONE, ONE, ONE), (3, 0, (1, 4), (9, 1), (3, 2)),
            (1, 3, (5, 1), (5, 4), (5, 2)),
        ])
        wanted = Web(4, [
            (0, 1, ONE, ONE, ONE),
            (0, 1, pair(Fraction(9) * Fraction(5, 4) / 2), pair(Fraction(5) / 4 / 2), pair(Fraction(15, 4) / 2)),
            (0, 2, pair(Fraction(9, 4)), pair(Fraction(8, 4) / 2), pair(Fraction(3, 2))),
            (1, 2, pair(Fraction(5, 4)), pair(Fraction(5)), pair(Fraction(5, 2))),
        ])
        self.told(wanted, merged, web, 3)

    def test_wares_with_no_stall_and_with_one(self):
        self.told(LONE, merged, LONE, 0)
        self.told(SPLIT, merged, SPLIT, 3)
        self.told(Web(2, []), merged, PAIR, 0)
        self.told(Web(2, []), merged, PAIR, 1)
        self.told(Web(6, SPLIT.stalls[:2] + SPLIT.stalls[3:]), merged, SPLIT, 5)
        self.told(Web(4, STAR.stalls[1:]), merged, STAR, 0)

    def test_two_stalls_in_a_row(self):
        web = Web(3, [(0, 1, (2, 1), (2, 1), (2, 1)), (1, 2, (3, 1), (3, 1), (3, 1))])
        wanted = Web(3, [(0, 2, (6, 5), (6, 5), (6, 5))])
        self.told(wanted, merged, web, 1)

    def test_two_stalls_to_one_ware(self):
        twice = Web(3, PAIR.stalls * 2 + ((1, 2, ONE, ONE, ONE),))
        self.refused(NotApart, {}, merged, twice, 0)
        self.refused(NotApart, {}, merged, twice, 1)
        self.told(Web(3, PAIR.stalls * 2), merged, twice, 2)
        turned = Web(3, PAIR.stalls + ((1, 0, ONE, ONE, ONE),))
        self.refused(NotApart, {}, merged, turned, 0)
        self.refused(NotApart, {}, merged, SPLIT, 4)

    def test_16_stalls_and_more(self):
        spokes = [(7, ware, ONE, ONE, ONE) for ware in range(7)]
        self.refused(TooMany, {"limit": 16}, merged, Web(8, spokes), 7)
        self.assertEqual(15, len(merged(Web(8, spokes[:6]), 7).stalls))
        rest = [(0, 6, ONE, ONE, ONE)]
        self.assertEqual(16, len(merged(Web(8, spokes[:6] + rest), 7).stalls))
        self.refused(TooMany, {"limit": 16}, merged, Web(8, spokes[:6] + rest * 2), 7)
        self.refused(NotApart, {}, merged, Web(8, spokes + spokes[:1]), 7)
        five = spokes[:5] + [(0, 6, ONE, ONE, ONE)] * 6
        self.assertEqual(16, len(merged(Web(8, five), 7).stalls))
        self.refused(TooMany, {"limit": 16}, merged, Web(8, five + rest), 7)

    def test_left_tables_stay(self):
        done = 0
        for web in webs(105, 150, 6, 9):
            for ware in range(web.wares):
                ends = [oracle.beyond(stall, ware) for stall in web.stalls if ware in stall[:2]]
                if len(ends) > len(set(ends)):
                    self.refused(NotApart, {}, merged, web, ware)
                elif len(web.stalls) - len(ends) + len(ends) * (len(ends) - 1) // 2 <= 16:
                    done += len(ends) > 1
                    found = merged(web, ware)
                    self.told(found, merged, web, ware)
                    told = tuple(other for other in range(web.wares) if other != ware)
                    if told:
                        self.assertEqual(left_table(web, told), left_table(found, told))
                    self.assertEqual([], [stall for stall in found.stalls if ware in stall[:2]])
                    fresh = [stall[:2] for stall in found.stalls[len(web.stalls) - len(ends):]]
                    self.assertEqual(list(combinations(sorted(ends), 2)), fresh)
        self.assertTrue(done > 50)

    def test_wares_are_asked(self):
        for wrong in wrong_wares(3):
            self.refused(BadWare, {}, merged, EVEN, wrong)
        self.refused(BadWare, {}, merged, LONE, 1)


if __name__ == "__main__":
    unittest.main()
