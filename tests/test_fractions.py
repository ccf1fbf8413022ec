"""Point 1.1, and what a fraction is (0.2)."""

import random
import unittest
from fractions import Fraction

from rootstalls.errors import BadFraction, BadNumber
from rootstalls.fractions import fraction, is_below, minus, over, plus, times
from tests.samples import LARGE, LARGE_OTHER, ONE, ZERO, Case, pair, wrong_fractions, wrong_integers

FRACTIONS = [
    ZERO, ONE, (-1, 1), (1, 2), (-1, 2), (2, 3), (-7, 6), (6, 7), (12, 1), (-5, 12), (35, 36),
    (LARGE, 1), (-LARGE, LARGE_OTHER), (LARGE_OTHER, LARGE), (1, LARGE), (-1, 10 ** 300 - 1),
]
CALLS = [plus, minus, times, over, is_below]


class Making(Case):
    def test_least_terms_and_a_bottom_above_0(self):
        for top, bottom, wanted in [
            (6, -4, (-3, 2)), (-6, -4, (3, 2)), (-6, 4, (-3, 2)), (6, 4, (3, 2)), (0, 7, ZERO),
            (0, -7, ZERO), (0, 1, ZERO), (5, 5, ONE), (5, -5, (-1, 1)), (3, 1, (3, 1)),
            (1, -1, (-1, 1)), (7, 21, (1, 3)), (LARGE * 6, LARGE * -4, (-3, 2)),
            (LARGE, LARGE_OTHER, pair(Fraction(LARGE, LARGE_OTHER))),
        ]:
            self.told(wanted, fraction, top, bottom)

    def test_large_common_divisors(self):
        self.told((2, 3), fraction, 2 * LARGE, 3 * LARGE)
        self.told((-LARGE, 1), fraction, LARGE * LARGE, -LARGE)

    def test_integers_are_asked(self):
        for wrong in wrong_integers():
            self.refused(BadNumber, {}, fraction, wrong, 1)
            self.refused(BadNumber, {}, fraction, 1, wrong)
            self.refused(BadNumber, {}, fraction, wrong, wrong)
            self.refused(BadNumber, {}, fraction, wrong, 0)

    def test_a_bottom_of_0(self):
        for top in (0, 1, -1, LARGE):
            self.refused(BadNumber, {}, fraction, top, 0)


class Reckoning(Case):
    def test_like_fractions_of_another_make(self):
        for one in FRACTIONS:
            for other in FRACTIONS:
                a, b = Fraction(*one), Fraction(*other)
                self.told(pair(a + b), plus, one, other)
                self.told(pair(a - b), minus, one, other)
                self.told(pair(a * b), times, one, other)
                self.told(a < b, is_below, one, other)
                if b:
                    self.told(pair(a / b), over, one, other)

    def test_many_small_ones(self):
        chance = random.Random(11)
        for _ in range(2000):
            a, b = [Fraction(chance.randint(-30, 30), chance.randint(1, 30)) for _ in range(2)]
            self.assertEqual(pair(a + b), plus(pair(a), pair(b)))
            self.assertEqual(pair(a - b), minus(pair(a), pair(b)))
            self.assertEqual(pair(a * b), times(pair(a), pair(b)))
            self.assertIs(a < b, is_below(pair(a), pair(b)))
            if b:
                self.assertEqual(pair(a / b), over(pair(a), pair(b)))

    def test_is_below_is_a_flag(self):
        self.assertIs(True, is_below((1, 3), (1, 2)))
        self.assertIs(False, is_below((1, 2), (1, 2)))
        self.assertIs(False, is_below((1, 2), (-1, 2)))

    def test_over_0(self):
        for one in FRACTIONS:
            self.refused(BadFraction, {"place": 1}, over, one, ZERO)

    def test_what_was_returned_may_be_passed_on(self):
        long = (LARGE, LARGE_OTHER)
        for _ in range(6):
            long = times(long, long)
        self.assertEqual(ONE, over(long, long))
        self.assertEqual(ZERO, minus(long, long))
        self.assertIs(True, is_below(long, plus(long, (1, LARGE))))

    def test_the_first_that_is_none_is_told(self):
        for call in CALLS:
            for wrong in wrong_fractions():
                self.refused(BadFraction, {"place": 0}, call, wrong, ONE)
                self.refused(BadFraction, {"place": 1}, call, ONE, wrong)
                self.refused(BadFraction, {"place": 0}, call, wrong, wrong)
                self.refused(BadFraction, {"place": 0}, call, wrong, ZERO)


if __name__ == "__main__":
    unittest.main()
