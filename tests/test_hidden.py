"""Points 16.1 and 16.2: webs told back from brims, and drags."""

import random
import unittest
from fractions import Fraction
from itertools import combinations

from rootstalls.brims import brim
from rootstalls.drags import drag
from rootstalls.errors import (
    BadAnswer, BadDrags, BadWares, NotFit, NotTied,
)
from rootstalls.hidden import drags_of, roots_of_drags, told_back
from rootstalls.nothing import fit
from rootstalls.told import left_table
from rootstalls.webs import Web, roots
from tests import oracle
from tests.samples import (
    BARE, EVEN, LARGE, LONE, ODD, ONE, SPLIT, ZERO, Case, fitting_web, odd_things, pair, pairs,
    random_web, some_number, webs, worth, wrong_amounts, wrong_integers,
)

NOTHING = (ZERO, ZERO)


class Oops(Exception):
    pass


def asking(web):
    """The brims of a web."""
    return lambda purse, ware: brim(web, purse, ware)


def questions(wares):
    """All that may be asked: a purse of 1 of each and a ware, or one more of a greater one."""
    ones = (ONE,) * wares
    found = [(ones, ware) for ware in range(wares)]
    for one, other in combinations(range(wares), 2):
        found.append((ones[:other] + ((2, 1),) + ones[other + 1:], one))
    return found


def brim_of(slants, roots_of, purse, ware):
    """The brim of a table, with Python's fractions: what is left of the slant when all others are struck."""
    size = len(slants)
    rows = [
        [worth(slants[one]) + worth(purse[one]) if one == other else -worth(roots_of[one][other])
         for other in range(size)] for one in range(size)
    ]
    rest = [other for other in range(size) if other != ware]
    return pair(oracle.behind(rows, rest)[0][ware][ware])


def random_table(chance, size, top):
    """A table that can be struck, that may be no web's: slants, and roots from 0 on."""
    between = [[ZERO] * size for _ in range(size)]
    for one, other in combinations(range(size), 2):
        if chance.random() < 0.7:
            between[one][other] = between[other][one] = pair(some_number(chance))
    scale = [some_number(chance) for _ in range(size)]
    slants = []
    for one in range(size):
        row = sum((worth(between[one][other]) * scale[other] for other in range(size)), Fraction(0))
        slants.append(pair(row / scale[one] + chance.choice([0, top])))
    return tuple(slants), tuple(map(tuple, between))


class ToldBack(Case):
    def test_by_hand(self):
        self.told((((2, 1),) * 3, roots(EVEN)), told_back, 3, asking(EVEN))
        self.told((((3, 1), (2, 1), (3, 2)), roots(ODD)), told_back, 3, asking(ODD))
        self.told(((ZERO,), ((ZERO,),)), told_back, 1, asking(LONE))
        self.told(((ZERO,) * 4, ((ZERO,) * 4,) * 4), told_back, 4, asking(BARE))

    def test_webs_of_1_to_5_wares(self):
        for web in webs(270, 120, 5):
            wanted = left_table(web, tuple(range(web.wares)))
            self.told(wanted, told_back, web.wares, asking(web))

    def test_the_questions_asked_and_no_others(self):
        chance = random.Random(271)
        for wares in range(1, 6):
            web = random_web(chance, wares, 2 * wares)
            asked = []

            def ask(purse, ware):
                self.assertIs(tuple, purse.__class__)
                asked.append((purse, ware))
                return brim(web, purse, ware)

            told_back(wares, ask)
            self.assertEqual(wares * (wares + 1) // 2, len(asked))
            self.assertEqual(sorted(questions(wares)), sorted(asked))

    def test_all_is_asked_also_where_nothing_can_be_told(self):
        asked = []
        self.assertIsNone(told_back(3, lambda *told: asked.append(told) or ZERO))
        self.assertEqual(sorted(questions(3)), sorted(asked))

    def test_tables_that_are_no_webs(self):
        # One ware of which something may stay, and no stall.
        self.told((((6, 1),), ((ZERO,),)), told_back, 1, lambda purse, ware: (7, 1))
        chance = random.Random(272)
        for _ in range(80):
            size = chance.randint(1, 5)
            slants, between = random_table(chance, size, some_number(chance))
            wanted = (slants, between)
            self.told(wanted, told_back, size, lambda purse, ware: brim_of(slants, between, purse, ware))

    def test_large_numbers(self):
        slants = ((LARGE, 1), (1, LARGE))
        between = ((ZERO, ONE), (ONE, ZERO))
        self.told((slants, between), told_back, 2, lambda purse, ware: brim_of(slants, between, purse, ware))

    def test_answers_of_no_table(self):
        # Of one ware the least brim is what is in the purse.
        self.told((NOTHING[:1], ((ZERO,),)), told_back, 1, lambda purse, ware: ONE)
        self.told(None, told_back, 1, lambda purse, ware: (1, 2))
        self.told(None, told_back, 1, lambda purse, ware: ZERO)

        def two(first, second, both):
            return lambda purse, ware: both if purse[1] != ONE else (first, second)[ware]

        # Nothing between them: one more of the second ware does not help.
        self.told((NOTHING, (NOTHING, NOTHING)), told_back, 2, two(ONE, ONE, ONE))
        # Less by more, a root of no fraction, one too large, and a slant with a wrong sign.
        self.told(None, told_back, 2, two((3, 2), (3, 2), (4, 3)))
        self.told(None, told_back, 2, two((3, 2), (3, 2), (8, 5)))
        self.told(None, told_back, 2, two((3, 2), (3, 2), (100, 1)))
        self.told(None, told_back, 2, two((1, 2), (3, 2), (1, 2)))
        for answers in ((ZERO, ONE, ONE), (ONE, ZERO, ONE), (ONE, ONE, ZERO)):
            self.told(None, told_back, 2, two(*answers))

    def test_tables_that_can_not_be_struck(self):
        # Slants of 1 / 2 and a root of 1 between them: with 1 of each all is well, but not without.
        slants = ((1, 2),) * 2
        between = ((ZERO, ONE), (ONE, ZERO))
        self.assertEqual((5, 6), brim_of(slants, between, (ONE, ONE), 0))
        self.told(None, told_back, 2, lambda purse, ware: brim_of(slants, between, purse, ware))
        # A slant of 0 and a root; and the edge: slants of 1 and a root of 1.
        for slants, wanted in ((((9, 1), ZERO), False), (((1, 1), (1, 1)), True), (((1, 1), (99, 100)), False)):
            found = told_back(2, lambda purse, ware: brim_of(slants, between, purse, ware))
            self.assertEqual((slants, between) if wanted else None, found)

    def test_tables_with_roots_below_0(self):
        # Square roots tell no sign: what comes of roots below 0 alike to roots from 0 on is told as such.
        slants = ((2, 1),) * 3
        between = ((ZERO, ONE, (-1, 1)), (ONE, ZERO, ZERO), ((-1, 1), ZERO, ZERO))
        found = told_back(3, lambda purse, ware: brim_of(slants, between, purse, ware))
        self.told(found, told_back, 3, lambda purse, ware: brim_of(*found, purse, ware))
        self.assertEqual(((ZERO, ONE, ONE), (ONE, ZERO, ZERO), (ONE, ZERO, ZERO)), found[1])
        # Brims of 2, and of 96 / 47 with one more of another ware, but not of the last two wares for one
        # another: between these there would be a root below 0.
        self.told(None, told_back, 3, lambda purse, ware: (96, 47) if ware == 0 and purse != (ONE,) * 3 else (2, 1))

    def test_any_answers(self):
        chance = random.Random(273)
        found = 0
        for _ in range(200):
            size = chance.randint(1, 3)
            answers = {}

            def ask(purse, ware):
                return answers.setdefault((purse, ware), pair(1 + Fraction(chance.randint(0, 9), 4)))

            told = told_back(size, ask)
            if told is not None:
                found += 1
                for purse, ware in questions(size):
                    self.assertEqual(answers[purse, ware], brim_of(*told, purse, ware))
        self.assertTrue(10 < found < 190)

    def test_numbers_of_wares_are_asked(self):
        def never(purse, ware):
            raise AssertionError("called")

        for wrong in wrong_integers() + [0, 6, -1, 8, 10 ** 11, -10 ** 400]:
            self.refused(BadWares, {}, told_back, wrong, never)

    def test_answers_are_asked(self):
        for wrong in wrong_amounts():
            self.refused(BadAnswer, {}, told_back, 1, lambda purse, ware: wrong)
            # The last one asked, also where the first ones belong to no table.
            last = questions(3)[-1]
            self.refused(
                BadAnswer, {}, told_back, 3, lambda purse, ware: wrong if (purse, ware) == last else ZERO,
            )

    def test_own_errors_go_on(self):
        def failing(purse, ware):
            if purse[1] == (2, 1):
                raise Oops("mine")
            return ONE

        with self.assertRaises(Oops) as caught:
            told_back(2, failing)
        self.assertEqual(("mine",), caught.exception.args)


def resistance(ties, one, other):
    """The drag of ties between all wares, by determinants: what is left without both, by without one."""
    size = len(ties)
    rows = [
        [sum(ties[at]) if at == beside else -ties[at][beside] for beside in range(size)] for at in range(size)
    ]
    rest = tuple(ware for ware in range(size) if ware != one)
    both = tuple(ware for ware in rest if ware != other)
    return oracle.determinant(rows, both) / oracle.determinant(rows, rest)


def random_ties(chance, size):
    """Ties between wares that all hang together."""
    ties = [[Fraction(0)] * size for _ in range(size)]
    for one, other in combinations(range(size), 2):
        if chance.random() < 0.6:
            ties[one][other] = ties[other][one] = some_number(chance)
    for ware in range(1, size):
        beside = chance.randrange(ware)
        ties[ware][beside] = ties[beside][ware] = some_number(chance)
    return ties


def rows_of(numbers):
    return tuple(pairs(row) for row in numbers)


class RootsOfDrags(Case):
    def test_by_hand(self):
        self.told(((ZERO, (1, 3)), ((1, 3), ZERO)), roots_of_drags, ((ZERO, (3, 1)), ((3, 1), ZERO)))
        thirds = tuple(tuple(ZERO if one == other else (2, 3) for other in range(3)) for one in range(3))
        self.told(roots(EVEN), roots_of_drags, thirds)
        # Drags in a row add up: no stall between the outer wares.
        row = rows_of([[0, 1, 3], [1, 0, 2], [3, 2, 0]])
        self.told(rows_of([[0, 1, 0], [1, 0, Fraction(1, 2)], [0, Fraction(1, 2), 0]]), roots_of_drags, row)

    def test_drags_that_no_web_has(self):
        # More than the sum of the others, and less than there would be with it.
        self.told(None, roots_of_drags, rows_of([[0, 1, 4], [1, 0, 2], [4, 2, 0]]))
        self.told(None, roots_of_drags, rows_of([[0, 1, Fraction(301, 100)], [1, 0, 2], [Fraction(301, 100), 2, 0]]))
        self.told(None, roots_of_drags, rows_of([[0, 100, 1], [100, 0, 1], [1, 1, 0]]))
        self.told(None, roots_of_drags, rows_of([[0, 1, 100], [1, 0, 1], [100, 1, 0]]))
        # Each three wares are well by themselves, all four are not: 1 between neighbours in a ring, 2 across.
        four = [[0, 1, 2, 1], [1, 0, 1, 2], [2, 1, 0, 1], [1, 2, 1, 0]]
        for part in combinations(range(4), 3):
            small = rows_of([[four[one][other] for other in part] for one in part])
            self.assertIsNotNone(roots_of_drags(small))
        self.told(None, roots_of_drags, rows_of(four))

    def test_2_to_6_wares(self):
        chance = random.Random(274)
        for at in range(60):
            size = 2 + at % 5
            ties = random_ties(chance, size)
            drags = [[resistance(ties, one, other) if one != other else 0 for other in range(size)]
                     for one in range(size)]
            self.told(rows_of(ties), roots_of_drags, rows_of(drags))

    def test_what_is_told_has_these_drags(self):
        chance = random.Random(275)
        found = 0
        for _ in range(200):
            size = chance.randint(2, 4)
            rows = [[Fraction(0)] * size for _ in range(size)]
            for one, other in combinations(range(size), 2):
                rows[one][other] = rows[other][one] = 1 + Fraction(chance.randint(0, 8), 8)
            told = roots_of_drags(rows_of(rows))
            if told is not None:
                found += 1
                stalls = [
                    (one, other) + (told[one][other],) * 3 for one, other in combinations(range(size), 2)
                    if told[one][other] != ZERO
                ]
                self.assertEqual(rows_of(rows), drags_of(Web(size, stalls)))
        self.assertTrue(20 < found < 200)

    def test_drags_are_asked(self):
        good = rows_of([[0, 1, 1], [1, 0, 1], [1, 1, 0]])
        self.assertIsNotNone(roots_of_drags(good))
        wrong = odd_things() + [
            (), ((ZERO,),), ((ZERO, ONE),), (NOTHING, NOTHING), ((ONE, ONE), (ONE, ONE)),
            ((ZERO, ONE), (ONE, ONE)), ((ZERO, ONE), ((2, 1), ZERO)), list(good), [list(row) for row in good],
            tuple(list(row) for row in good), good[:2], good + good[:1], tuple(row[:2] for row in good),
            tuple(row + (ONE,) for row in good), rows_of([[0, 1, 1], [1, 0, 0], [1, 0, 0]]),
            rows_of([[0, 1, 1], [1, 0, 2], [1, 1, 0]]), rows_of([[0, -1], [-1, 0]]), ((ZERO, ONE), None),
            ((0, 1), (1, 0)), ((ZERO, ONE), (ONE, 0)), {0: good}, "".join("01"),
            rows_of([[int(one != other) for other in range(7)] for one in range(7)]),
        ]
        for thing in wrong:
            self.refused(BadDrags, {}, roots_of_drags, thing)
        for amount in wrong_amounts():
            self.refused(BadDrags, {}, roots_of_drags, ((ZERO, amount), (amount, ZERO)))
            self.refused(BadDrags, {}, roots_of_drags, ((ZERO, ONE), (ONE, amount)))
        six = rows_of([[int(one != other) for other in range(6)] for one in range(6)])
        self.assertEqual(rows_of([[Fraction(one != other, 3) for other in range(6)] for one in range(6)]),
                         roots_of_drags(six))


class DragsOf(Case):
    def test_by_hand(self):
        self.told(
            tuple(tuple(ZERO if one == other else (2, 3) for other in range(3)) for one in range(3)),
            drags_of, EVEN,
        )
        web = Web(2, [(1, 0, (2, 1), (8, 1), (4, 1))])
        # The number of the second ware is 2, so the tie is 8.
        self.assertEqual(pairs([1, 2]), fit(web))
        self.told(rows_of([[0, Fraction(1, 8)], [Fraction(1, 8), 0]]), drags_of, web)

    def test_each_drag(self):
        chance = random.Random(276)
        tied = 0
        for at in range(60):
            web = fitting_web(chance, 2 + at % 5, 7)
            if len(oracle.joined_all(web)) > 1:
                self.refused(NotTied, {}, drags_of, web)
                continue
            tied += 1
            wanted = tuple(
                tuple(drag(web, one, other) if one != other else ZERO for other in range(web.wares))
                for one in range(web.wares)
            )
            self.told(wanted, drags_of, web)
            # The roots told from them are the ties of the web.
            ties = [[Fraction(0)] * web.wares for _ in range(web.wares)]
            for stall, tie in zip(web.stalls, oracle.ties(web)):
                ties[stall[0]][stall[1]] += tie
                ties[stall[1]][stall[0]] += tie
            self.told(rows_of(ties), roots_of_drags, wanted)
        self.assertTrue(tied > 25)

    def test_webs_are_asked(self):
        self.refused(NotFit, {}, drags_of, ODD)
        self.refused(NotFit, {}, drags_of, Web(8, ODD.stalls))
        self.refused(NotTied, {}, drags_of, BARE)
        self.refused(NotTied, {}, drags_of, SPLIT)
        self.refused(NotTied, {}, drags_of, Web(7, EVEN.stalls))
        self.refused(BadWares, {}, drags_of, LONE)
        for wares in (7, 8):
            row = [(ware, ware + 1, ONE, ONE, ONE) for ware in range(wares - 1)]
            self.refused(BadWares, {}, drags_of, Web(wares, row))
        six = Web(6, [(ware, ware + 1, ONE, ONE, ONE) for ware in range(5)])
        self.told(rows_of([[abs(one - other) for other in range(6)] for one in range(6)]), drags_of, six)


if __name__ == "__main__":
    unittest.main()
