"""Point 9.1: rows of customers, what they take, and the least and greatest over all orders."""

import random
import unittest
from fractions import Fraction
from itertools import permutations

from rootstalls.brims import brim, brim_deal
from rootstalls.customers import served, spread
from rootstalls.deals import played
from rootstalls.errors import BadCustomer, BadOrder
from rootstalls.webs import Web
from tests.samples import (
    BARE, EVEN, FULL, LARGE, LONE, ODD, ONE, SPLIT, ZERO, Case, odd_things, pair, some_number, webs, worth,
    wrong_orders, wrong_somes, wrong_wares,
)

PAIR = Web(2, [(0, 1, ONE, ONE, ONE)])
GIVER = (0, ONE, 1)


def random_customers(chance, web, number):
    found = []
    for _ in range(number):
        ware, other = chance.sample(range(web.wares), 2)
        found.append((ware, pair(some_number(chance)), other))
    return found


def one_behind_another(web, customers, order):
    """The words of 9.1: each takes the brim, and leaves the web as brim_deal leaves it."""
    amounts = []
    for index in order:
        ware, amount, other = customers[index]
        purse = [amount if at == ware else ZERO for at in range(web.wares)]
        amounts.append(brim(web, purse, other))
        web = played(web, purse, brim_deal(web, purse, other))[0]
    return amounts


def customer_cases(seed, number, most_wares, most_customers):
    chance = random.Random(seed)
    for web in webs(seed, number, most_wares):
        if web.wares > 1:
            yield web, random_customers(chance, web, chance.randint(1, most_customers))


def wrong_customers():
    """Things that are no customer of a web of three wares."""
    wrong = odd_things() + [
        0, list(GIVER), GIVER[:2], GIVER + (ONE,), (0, ONE, 0), (1, ONE, 3), (-1, ONE, 1), (0, ZERO, 1),
        (0, (-1, 2), 1), (0, 1, ONE), (ONE, 0, 1), (0, 1, 1), (False, ONE, 1), (0, ONE, True), "011",
    ]
    for one in wrong_wares(3):
        wrong += [(one, ONE, 1), (0, ONE, one)]
    return wrong + [(0, one, 1) for one in wrong_somes()]


class Served(Case):
    def test_by_hand(self):
        self.told([(1, 2)], served, PAIR, [GIVER], (0,))
        self.told([(1, 2), (1, 6)], served, PAIR, [GIVER, GIVER], (0, 1))
        self.told([(1, 2), (1, 6)], served, PAIR, (GIVER, GIVER), (1, 0))
        back = (1, ONE, 0)
        self.told([(1, 2), (4, 3)], served, PAIR, [GIVER, back], (0, 1))
        self.told([(1, 2), (4, 3)], served, PAIR, [GIVER, back], (1, 0))
        self.told([(3, 5)], served, EVEN, [GIVER], (0,))
        self.told([], served, EVEN, [], ())
        self.told([], served, LONE, (), ())

    def test_amounts_are_told_by_the_order(self):
        many = (0, (3, 1), 1)
        self.told([(1, 2), (3, 10)], served, PAIR, [many, GIVER], (1, 0))
        self.told([(3, 4), (1, 20)], served, PAIR, [many, GIVER], (0, 1))

    def test_unlike_pieces_and_amounts_of_nothing(self):
        self.told([ZERO, ZERO], served, BARE, [(0, ONE, 1), (1, ONE, 0)], (1, 0))
        self.told([ZERO], served, SPLIT, [(3, ONE, 1)], (0,))
        # Of the uneven piece the first one takes what can be had for nothing, whatever they give.
        web = Web(5, ODD.stalls)
        row = [(3, ONE, 1), (4, (9, 1), 2), (3, ONE, 4), (0, ONE, 3)]
        self.told([(1, 7), ZERO, ZERO, ZERO], served, web, row, (0, 1, 2, 3))
        self.told([ZERO, ZERO, (1, 10), ZERO], served, web, row, (3, 2, 1, 0))

    def test_large_numbers(self):
        much = (0, (LARGE, 1), 1)
        wanted = pair(Fraction(1, LARGE + 1) - Fraction(1, LARGE + 2))
        self.told([pair(Fraction(LARGE, LARGE + 1)), wanted], served, PAIR, [much, GIVER], (0, 1))

    def test_every_order(self):
        for web, customers in customer_cases(150, 25, 5, 3):
            for order in permutations(range(len(customers))):
                wanted = one_behind_another(web, customers, order)
                self.told(wanted, served, web, customers, order)

    def test_5_customers_eight_wares_and_16_stalls(self):
        customers = random_customers(random.Random(151), FULL, 5)
        for order in [(0, 1, 2, 3, 4), (4, 2, 0, 1, 3)]:
            self.told(one_behind_another(FULL, customers, order), served, FULL, customers, order)

    def test_the_seventh_fact(self):
        chance = random.Random(152)
        for web in webs(152, 60, 6):
            if web.wares > 1:
                ware, other = chance.sample(range(web.wares), 2)
                amounts = [some_number(chance) for _ in range(chance.randint(2, 5))]
                row = [(ware, pair(amount), other) for amount in amounts]
                order = list(range(len(row)))
                chance.shuffle(order)
                whole = served(web, [(ware, pair(sum(amounts)), other)], (0,))[0]
                self.assertEqual(worth(whole), sum(map(worth, served(web, row, tuple(order)))))


class Spread(Case):
    def test_by_hand(self):
        self.told([], spread, EVEN, [])
        self.told([], spread, LONE, ())
        self.told([((1, 2), (1, 2))], spread, PAIR, [GIVER])
        self.told([((1, 6), (1, 2))] * 2, spread, PAIR, (GIVER, GIVER))
        self.told([((1, 20), (1, 2)), ((3, 10), (3, 4))], spread, PAIR, [GIVER, (0, (3, 1), 1)])
        self.told([((1, 2), (4, 3))] * 2, spread, PAIR, [GIVER, (1, ONE, 0)])

    def test_least_and_greatest_are_by_value(self):
        web = Web(2, [(0, 1, (12, 1), (12, 1), (12, 1))])
        row = [(0, (6, 1), 1), (0, (4, 1), 1)]
        self.told([((27, 11), (4, 1)), ((16, 11), (3, 1))], spread, web, row)

    def test_unlike_pieces_and_amounts_of_nothing(self):
        self.told([(ZERO, ZERO), (ZERO, ZERO)], spread, BARE, [(0, ONE, 1), (1, ONE, 0)])
        web = Web(5, ODD.stalls)
        self.told([(ZERO, (1, 7)), (ZERO, (1, 10))], spread, web, [(3, ONE, 1), (4, ONE, 2)])

    def test_over_all_orders(self):
        for web, customers in customer_cases(153, 25, 5, 4):
            found = [[] for _ in customers]
            for order in permutations(range(len(customers))):
                for index, amount in zip(order, one_behind_another(web, customers, order)):
                    found[index].append(worth(amount))
            wanted = [(pair(min(amounts)), pair(max(amounts))) for amounts in found]
            self.told(wanted, spread, web, customers)

    def test_5_customers(self):
        row = [(0, (at, 1), 1) for at in range(1, 6)]
        # Whoever comes first takes the most, whoever comes last the least, of n in n + 1 and of 15 in 16.
        wanted = [
            (pair(Fraction(1, 16 - at) - Fraction(1, 16)), pair(1 - Fraction(1, 1 + at))) for at in range(1, 6)
        ]
        self.told(wanted, spread, PAIR, row)
        row = [(0, ONE, 1), (1, ONE, 2), (2, ONE, 0), (0, ONE, 2), (1, ONE, 0)]
        for (least, greatest), at in zip(spread(EVEN, row), range(5)):
            for order in [(0, 1, 2, 3, 4), (4, 3, 2, 1, 0), (2, 0, 4, 1, 3)]:
                taken = worth(served(EVEN, row, order)[order.index(at)])
                self.assertTrue(worth(least) <= taken <= worth(greatest))


class Wrong(Case):
    CALLS = (spread, lambda web, customers: served(web, customers, None))

    def test_rows_of_customers(self):
        rows = odd_things() + [0, [GIVER] * 6, (GIVER,) * 6, [None] * 6, {0: GIVER}, iter([GIVER])]
        rows = [row for row in rows if not isinstance(row, (list, tuple)) or len(row) > 5]
        for call in self.CALLS:
            for row in rows:
                self.refused(BadCustomer, {"index": -1}, call, EVEN, row)

    def test_the_first_thing_that_is_no_customer(self):
        for call in self.CALLS:
            for thing in wrong_customers():
                self.refused(BadCustomer, {"index": 0}, call, EVEN, [thing])
                self.refused(BadCustomer, {"index": 1}, call, EVEN, (GIVER, thing, GIVER, None))
            self.refused(BadCustomer, {"index": 4}, call, EVEN, [GIVER] * 4 + [None])
            self.refused(BadCustomer, {"index": 0}, call, EVEN, GIVER)
            self.refused(BadCustomer, {"index": 0}, call, LONE, [GIVER])
            self.refused(BadCustomer, {"index": 1}, call, PAIR, [GIVER, (0, ONE, 2)])

    def test_orders(self):
        for wrong in wrong_orders():
            self.refused(BadOrder, {}, served, EVEN, [GIVER] * 3, wrong)
        self.refused(BadOrder, {}, served, EVEN, [], (0,))
        self.refused(BadOrder, {}, served, EVEN, [], [])
        self.refused(BadOrder, {}, served, EVEN, [GIVER], ())
        self.refused(BadOrder, {}, served, EVEN, [GIVER], (False,))
        self.refused(BadOrder, {}, served, EVEN, [GIVER] * 2, (0, 0))


if __name__ == "__main__":
    unittest.main()
