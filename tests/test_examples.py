"""The examples of the document."""

import unittest

from rootstalls.brims import brim
from rootstalls.deals import led, out_of
from rootstalls.drags import drag, one_stall, trees, two_trees
from rootstalls.fractions import fraction, over, plus
from rootstalls.levels import least_worth, takings
from rootstalls.nothing import for_nothing
from rootstalls.orders import run
from rootstalls.routes import best_route, route_rule
from rootstalls.slips import greatest_lots, kept
from rootstalls.striking import struck
from rootstalls.told import left_table
from rootstalls.webs import Web, held, root_of

even = Web(3, [
    (0, 1, (1, 1), (1, 1), (1, 1)), (1, 2, (1, 1), (1, 1), (1, 1)), (0, 2, (1, 1), (1, 1), (1, 1))
])
odd = led(even, 2, (2, 1))
none = ((0, 1), (0, 1), (0, 1))


class Examples(unittest.TestCase):
    def test_e01(self):
        self.assertEqual(
            ((-3, 2), (5, 6), (2, 3), (2, 1)),
            (fraction(6, -4), plus((1, 2), (1, 3)), over((1, 2), (3, 4)), root_of((1, 2), (8, 1)))
        )

    def test_e02(self):
        self.assertEqual(
            (((3, 1), (2, 1), (3, 2)), (1, 2)), (held(odd), out_of(even, (0, 0, (1, 1))))
        )

    def test_e03(self):
        self.assertEqual((3, 5), brim(even, ((1, 1), (0, 1), (0, 1)), 1))

    def test_e05(self):
        self.assertEqual(
            (True, [(2, 1), (3, 2), (0, 1)]), struck(even, none, none, (0, 1, 2))
        )

    def test_e04(self):
        self.assertEqual(
            ((1, 4), (1, 7), (1, 10)), (for_nothing(odd, 0), for_nothing(odd, 1), for_nothing(odd, 2))
        )

    def test_e06(self):
        star = Web(4, [
            (3, 0, (1, 1), (1, 1), (1, 1)), (3, 1, (1, 1), (1, 1), (1, 1)), (3, 2, (1, 1), (1, 1), (1, 1))
        ])
        self.assertEqual(
            (((1, 2), (1, 2)), (((0, 1), (1, 2)), ((1, 2), (0, 1)))), left_table(star, (0, 1))
        )

    def test_e07(self):
        self.assertEqual(
            ((2, 3), (0, 1, (3, 2), (3, 2), (3, 2)), (3, 1), (2, 1)),
            (drag(even, 0, 1), one_stall(even, 0, 1), trees(even), two_trees(even, 0, 1))
        )

    def test_e08(self):
        one = Web(2, [(0, 1, (1, 1), (1, 1), (1, 1))])
        slips = [(0, (1, 1), 1, (2, 3)), (1, (1, 1), 0, (2, 3))]
        self.assertEqual(
            ([(0, 1)], (7, 12)), (greatest_lots(one, slips), kept(one, slips, (0, 1), 0))
        )

    def test_e09(self):
        self.assertEqual(
            (((1, 1), (2, 1)), ((1, 2), ((2, 0),))),
            (route_rule(even, ((0, 0), (1, 1))), best_route(even, 0, 2, (1, 1)))
        )

    def test_e10(self):
        self.assertEqual(
            ((2, 5), (1, 3), (1, 11)),
            run(even, ((1, 1), (0, 1), (0, 1)), "half 0 0\nput 1/10 0 2")[1]
        )

    def test_e11(self):
        steep = Web(2, [(0, 1, (1, 1), (4, 1), (2, 1))])
        self.assertEqual(
            ((4, 1), [(1, 1)]),
            (least_worth(steep, ((1, 1), (1, 1))), takings(steep, ((1, 1), (1, 1))))
        )


if __name__ == "__main__":
    unittest.main()
