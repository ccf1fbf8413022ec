"""Points 11.1 to 11.3: routes, where two of them meet, the best one, and from where to where it is best."""

import random
import unittest
from fractions import Fraction
from itertools import permutations

from rootstalls.deals import moved, out_of, played
from rootstalls.errors import BadAmount, BadRoute, BadWare
from rootstalls.routes import best_route, best_spans, meeting, route_deal, route_out, route_rule
from rootstalls.webs import Web
from tests import oracle
from tests.samples import (
    BARE, EVEN, LARGE, LONE, ODD, ONE, SPLIT, ZERO, Case, odd_things, pair, some_number, webs, worth,
    worths, wrong_integers, wrong_somes, wrong_wares,
)

# Three stalls between two wares: one with a great rate and little in it, one with much in it and a
# less rate, and one between.
SIDE = Web(2, [
    (0, 1, (200, 1), (200, 1), (200, 1)), (0, 1, ONE, (4, 1), (2, 1)), (0, 1, (8, 1), (18, 1), (12, 1)),
])
ROUND = ((0, 0), (1, 1), (2, 2))


def all_routes(web, one, other):
    """All routes from a ware to another one, by trying all rows of stalls."""
    found = []
    for many in range(1, len(web.stalls) + 1):
        for indexes in permutations(range(len(web.stalls)), many):
            route = oracle.walked(web, indexes, one)
            if route and oracle.beyond(web.stalls[route[-1][0]], route[-1][1]) == other:
                found.append(route)
    return sorted(found)


def brought(web, route, amount):
    """What a route brings, by its moves one behind another, with Python's fractions."""
    amount = Fraction(amount)
    for index, ware in route:
        stall = web.stalls[index]
        held, beyond = oracle.holds(stall, ware), oracle.holds(stall, oracle.beyond(stall, ware))
        amount = beyond - held * beyond / (held + amount)
    return amount


def begin_and_end(web, route):
    return (route[0][1], oracle.beyond(web.stalls[route[-1][0]], route[-1][1]))


def routes_of(seed, number, most_stalls=5):
    """Webs with routes."""
    chance = random.Random(seed)
    for web in webs(seed, number, 4, most_stalls):
        routes = [route for one in range(web.wares) for other in range(web.wares)
                  for route in all_routes(web, one, other)]
        for route in chance.sample(routes, min(4, len(routes))):
            yield web, route


def wrong_routes():
    """Things that are no route of EVEN."""
    wrong = odd_things() + [
        0, ONE, [], [(0, 0)], (), ((0, 0), (1, 0)), ((0, 0), (0, 1)), ((0, 0), (1, 1), (0, 0)),
        ROUND + ((0, 0),), ((0, 2),), ((1, 0),), ((3, 0),), ((-1, 0),), ((0, -1),), ((0, 0, 0),), ((0,),),
        ([0, 0],), ((0, 0), [1, 1]), ((0, False),), ((False, 0),), ((True, 1),), ((0, 0), (1, True)),
        ((0, 0), (2, 2)), ((0, 0), None), ((0, "0"),), (0, 0), ((0, 0), (1, 1), (2, 0)),
        (ROUND,), ((10 ** 400, 0),), ((0, 10 ** 400),), {0: (0, 0)},
    ]
    for one in wrong_integers():
        wrong += [((0, one),), ((one, 0),), ((0, 0), (one, 1))]
    return wrong


class Rules(Case):
    def test_by_hand(self):
        self.told((ONE, ONE), route_rule, EVEN, ((0, 0),))
        self.told((ONE, (2, 1)), route_rule, EVEN, ((0, 0), (1, 1)))
        self.told(((4, 1), ONE), route_rule, SIDE, ((1, 0),))
        self.told(((1, 4), (1, 4)), route_rule, SIDE, ((1, 1),))
        self.told(((1, 4), (1, 2)), route_rule, ODD, ((2, 0),))
        self.told(((4, 1), (2, 1)), route_rule, ODD, ((2, 2),))
        self.told((1, 2), route_out, EVEN, ((0, 0),), ONE)
        self.told((1, 3), route_out, EVEN, ((0, 0), (1, 1)), ONE)
        self.told([(0, 0, ONE)], route_deal, EVEN, ((0, 0),), ONE)
        self.told([(0, 0, ONE), (1, 1, (1, 2))], route_deal, EVEN, ((0, 0), (1, 1)), ONE)

    def test_routes_may_come_by_a_ware_again(self):
        self.told((ONE, (3, 1)), route_rule, EVEN, ROUND)
        self.told((1, 4), route_out, EVEN, ROUND, ONE)
        self.told([(0, 0, ONE), (1, 1, (1, 2)), (2, 2, (1, 3))], route_deal, EVEN, ROUND, ONE)
        # There and back by two stalls and on by a third one.
        there = ((1, 0), (0, 1), (2, 0))
        slow = 1 + Fraction(4, 200) + Fraction(4, 8)
        self.told(((9, 1), pair(slow)), route_rule, SIDE, there)

    def test_what_the_rule_tells_is_what_the_moves_bring(self):
        chance = random.Random(210)
        for web, route in routes_of(210, 80):
            rate, slow = worths(route_rule(web, route))
            self.assertTrue(rate > 0 and slow > 0)
            for _ in range(3):
                amount = some_number(chance)
                wanted = pair(rate * amount / (1 + slow * amount))
                self.assertEqual(pair(brought(web, route, amount)), wanted)
                self.told(wanted, route_out, web, route, pair(amount))
                self.moves_bring(web, route, pair(amount), wanted)

    def moves_bring(self, web, route, amount, wanted):
        """Each move takes all that came out of the last one, and the last one leaves what is wanted."""
        moves = route_deal(web, route, amount)
        self.assertEqual(list(route), [move[:2] for move in moves])
        self.assertEqual(amount, moves[0][2])
        now = web
        for at, move in enumerate(moves):
            out = out_of(now, move)
            now = moved(now, move)
            self.assertEqual(out, moves[at + 1][2] if at + 1 < len(moves) else wanted)
        first, last = begin_and_end(web, route)
        purse = [amount if ware == first else ZERO for ware in range(web.wares)]
        has = [wanted if ware == last else ZERO for ware in range(web.wares)]
        self.assertEqual((now, tuple(has)), played(web, purse, moves))

    def test_large_numbers(self):
        amount = (LARGE, 1)
        self.told(pair(Fraction(LARGE, 1 + 3 * LARGE)), route_out, EVEN, ROUND, amount)
        self.told(pair(Fraction(1, LARGE + 3)), route_out, EVEN, ROUND, (1, LARGE))
        self.assertEqual((0, 0, amount), route_deal(EVEN, ROUND, amount)[0])

    def test_routes_and_amounts_are_asked(self):
        for wrong in wrong_routes():
            self.refused(BadRoute, {}, route_rule, EVEN, wrong)
            for call in (route_out, route_deal):
                self.refused(BadRoute, {}, call, EVEN, wrong, ONE)
                self.refused(BadRoute, {}, call, EVEN, wrong, ZERO)
        for wrong in wrong_somes():
            for call in (route_out, route_deal):
                self.refused(BadAmount, {}, call, EVEN, ROUND, wrong)
        self.refused(BadRoute, {}, route_rule, BARE, ((0, 0),))
        self.refused(BadRoute, {}, route_rule, LONE, ())

    def test_alike_stalls_are_two(self):
        self.told((ONE, (4, 1)), route_rule, SPLIT, ((0, 4), (1, 1)))

    def test_a_stall_is_used_once(self):
        for indexes in permutations((0, 1, 2)):
            route = oracle.walked(EVEN, indexes, 0)
            if route:
                self.assertEqual(ONE, route_rule(EVEN, route)[0])
                self.refused(BadRoute, {}, route_rule, EVEN, route + route[:1])


class Meetings(Case):
    def test_by_hand(self):
        # Of rates 4 and 1: 4 p divided by 1 + p is p divided by 1 + p divided by 200.
        self.told(pair(Fraction(3) / (1 - Fraction(4, 200))), meeting, SIDE, ((1, 0),), ((0, 0),))
        self.told(pair(Fraction(3) / (1 - Fraction(4, 200))), meeting, SIDE, ((0, 0),), ((1, 0),))
        # By both ways through EVEN one is better for each amount.
        self.told(None, meeting, EVEN, ((0, 0), (1, 1)), ((2, 0),))
        self.told(None, meeting, EVEN, ((2, 0),), ((0, 0), (1, 1)))

    def test_the_same_for_all_amounts(self):
        self.told(None, meeting, EVEN, ((2, 0),), ((2, 0),))
        self.told(None, meeting, SPLIT, ((0, 4),), ((1, 4),))
        self.told(None, meeting, EVEN, ROUND, tuple(
            (index, oracle.beyond(EVEN.stalls[index], ware)) for index, ware in ROUND[::-1]
        ))

    def test_they_would_meet_at_0_or_below(self):
        # Unlike slows, but the same rate: the same for 0 alone.
        web = Web(2, [(0, 1, ONE, ONE, ONE), (0, 1, (2, 1), (2, 1), (2, 1))])
        self.told(None, meeting, web, ((0, 0),), ((1, 0),))
        # The greater rate has the lesser slow.
        web = Web(2, [(0, 1, ONE, ONE, ONE), (0, 1, (2, 1), (8, 1), (4, 1))])
        self.told(None, meeting, web, ((0, 0),), ((1, 0),))
        # Rates and slows in one proportion: nowhere the same.
        web = Web(2, [(0, 1, ONE, ONE, ONE), (0, 1, (1, 4), ONE, (1, 2))])
        rules = [route_rule(web, ((index, 0),)) for index in (0, 1)]
        self.assertEqual([(ONE, ONE), ((4, 1), (4, 1))], rules)
        self.told(None, meeting, web, ((0, 0),), ((1, 0),))
        self.told(None, meeting, web, ((1, 0),), ((0, 0),))

    def test_both_bring_the_same_there_and_nowhere_else(self):
        met = 0
        for seed, web in enumerate(webs(211, 60, 3, 5)):
            for one in range(web.wares):
                for other in range(web.wares):
                    routes = all_routes(web, one, other)
                    chance = random.Random(seed)
                    for first, second in [chance.sample(routes, 2) for _ in range(4) if len(routes) > 1]:
                        met += self.meets_as_told(web, first, second)
        self.assertTrue(met > 20)

    def meets_as_told(self, web, one, other):
        found = meeting(web, one, other)
        self.assertEqual(found, meeting(web, other, one))
        better, slower = sorted((one, other), key=lambda route: -worth(route_rule(web, route)[0]))
        trials = [Fraction(1, 10 ** 6), Fraction(1, 3), Fraction(1), Fraction(7, 2), Fraction(10 ** 6)]
        if found is None:
            signs = {(brought(web, better, at) > brought(web, slower, at))
                     - (brought(web, better, at) < brought(web, slower, at)) for at in trials}
            self.assertEqual(1, len(signs))
            return 0
        at = worth(found)
        self.assertEqual(brought(web, one, at), brought(web, other, at))
        for times in (Fraction(1, 1000), Fraction(99, 100)):
            self.assertTrue(brought(web, better, at * times) > brought(web, slower, at * times))
        for times in (Fraction(101, 100), 1000):
            self.assertTrue(brought(web, better, at * times) < brought(web, slower, at * times))
        return 1

    def test_routes_are_asked(self):
        good = ((0, 0),)
        for wrong in wrong_routes():
            self.refused(BadRoute, {}, meeting, EVEN, wrong, good)
            self.refused(BadRoute, {}, meeting, EVEN, good, wrong)
        # They have to begin at one ware and to end at one ware.
        self.refused(BadRoute, {}, meeting, EVEN, good, ((0, 1),))
        self.refused(BadRoute, {}, meeting, EVEN, good, ((2, 0),))
        self.refused(BadRoute, {}, meeting, EVEN, good, ((1, 2),))
        self.refused(BadRoute, {}, meeting, EVEN, good, ROUND)
        self.refused(BadRoute, {}, meeting, EVEN, ROUND, ((1, 1), (2, 2), (0, 0)))


class Best(Case):
    def test_by_hand(self):
        self.told(((1, 2), ((2, 0),)), best_route, EVEN, 0, 2, ONE)
        self.told(((2, 3), ((2, 2),)), best_route, ODD, 2, 0, (1, 4))
        # 4 by the second stall, 4 : (1 + 4 / 200) back by the first one, and on by the third one.
        self.told(((25, 7), ((1, 0), (0, 1), (2, 0))), best_route, SIDE, 0, 1, ONE)
        self.told(((6, 1), ((2, 0),)), best_route, SIDE, 0, 1, (4, 1))
        self.told(((400, 3), ((0, 0),)), best_route, SIDE, 0, 1, (400, 1))

    def test_the_least_of_several_that_bring_the_same(self):
        self.told(((1, 4), ((0, 1),)), best_route, SPLIT, 1, 4, (8, 1))
        web = Web(3, [(1, 2, ONE, ONE, ONE), (0, 1, ONE, ONE, ONE), (1, 2, ONE, ONE, ONE), (0, 1, ONE, ONE, ONE)])
        self.told(((1, 3), ((1, 0), (0, 1))), best_route, web, 0, 2, ONE)
        alike = Web(2, [(1, 0, ONE, ONE, ONE)] * 2)
        self.told(((1, 2), ((0, 0),)), best_route, alike, 0, 1, ONE)

    def test_a_way_round_can_be_worth_it(self):
        # What ODD gives for nothing is taken on the way: by 2 to 0 by the dear stall, and on.
        web = Web(3, ODD.stalls + EVEN.stalls)
        most, route = best_route(web, 0, 1, (1, 100))
        self.assertTrue(len(route) > 1)
        self.assertEqual(most, route_out(web, route, (1, 100)))
        self.assertTrue(worth(most) > brought(web, ((0, 0),), Fraction(1, 100)))

    def test_no_route(self):
        for amount in (ONE, (LARGE, 1)):
            self.told(None, best_route, BARE, 0, 3, amount)
            self.told(None, best_route, SPLIT, 4, 5, amount)
            self.told(None, best_route, SPLIT, 3, 0, amount)

    def test_all_routes_tried(self):
        chance = random.Random(212)
        for web in webs(212, 60, 4, 5):
            for one, other in permutations(range(web.wares), 2):
                amount = some_number(chance) * chance.choice([Fraction(1, 100), 1, 100])
                routes = all_routes(web, one, other)
                if not routes:
                    self.told(None, best_route, web, one, other, pair(amount))
                    continue
                most = max(brought(web, route, amount) for route in routes)
                least = min(route for route in routes if brought(web, route, amount) == most)
                self.told((pair(most), least), best_route, web, one, other, pair(amount))

    def test_six_stalls_between_two_wares(self):
        chance = random.Random(213)
        web = Web(2, [(0, 1, pair(at), pair(Fraction(9, at)), (3, 1)) for at in range(1, 7)])
        amount = some_number(chance)
        routes = all_routes(web, 0, 1)
        most = max(brought(web, route, amount) for route in routes)
        self.assertEqual(pair(most), best_route(web, 0, 1, pair(amount))[0])

    def test_wares_and_amounts_are_asked(self):
        for wrong in wrong_wares(3):
            self.refused(BadWare, {}, best_route, EVEN, wrong, 0, ONE)
            self.refused(BadWare, {}, best_route, EVEN, 0, wrong, None)
            self.refused(BadWare, {}, best_spans, EVEN, wrong, 0)
            self.refused(BadWare, {}, best_spans, EVEN, 0, wrong)
        for ware in range(3):
            self.refused(BadWare, {}, best_route, EVEN, ware, ware, ZERO)
            self.refused(BadWare, {}, best_spans, EVEN, ware, ware)
        self.refused(BadWare, {}, best_spans, LONE, 0, 0)
        for wrong in wrong_somes():
            self.refused(BadAmount, {}, best_route, EVEN, 0, 1, wrong)
            self.refused(BadAmount, {}, best_route, BARE, 0, 1, wrong)


class Spans(Case):
    def test_by_hand(self):
        self.told([(ZERO, None, ((2, 0),))], best_spans, EVEN, 0, 2)
        self.told([], best_spans, BARE, 0, 1)
        self.told([], best_spans, SPLIT, 4, 5)
        # 4 p : 1 + p, then p : 1 + p / 200.
        web = Web(2, SIDE.stalls[:2])
        self.told([(ZERO, (150, 49), ((1, 0),)), ((150, 49), None, ((0, 0),))], best_spans, web, 0, 1)

    def test_several_spans(self):
        # 9 p : 1 + 38 p / 25 by three stalls, then 9 p : 4 + p / 2, then p : 1 + p / 200.
        first = pair((9 - Fraction(9, 4)) / (Fraction(9, 4) * Fraction(38, 25) - Fraction(9, 8)))
        second = pair((Fraction(9, 4) - 1) / (Fraction(1, 8) - Fraction(9, 4) / 200))
        there = ((1, 0), (0, 1), (2, 0))
        self.told(
            [(ZERO, first, there), (first, second, ((2, 0),)), (second, None, ((0, 0),))],
            best_spans, SIDE, 0, 1,
        )

    def test_of_routes_with_one_rule_the_least(self):
        web = Web(2, [(0, 1, ONE, ONE, ONE)] * 3)
        self.told([(ZERO, None, ((0, 0),))], best_spans, web, 0, 1)
        self.told([(ZERO, None, ((0, 1),))], best_spans, web, 1, 0)
        # Two ways of two stalls each have one rule, and so have these crosswise.
        web = Web(3, [(1, 2, ONE, ONE, ONE), (0, 1, ONE, ONE, ONE), (1, 2, ONE, ONE, ONE), (0, 1, ONE, ONE, ONE)])
        self.told([(ZERO, None, ((1, 0), (0, 1)))], best_spans, web, 0, 2)
        # Both are best from one amount on; up to there another one is.
        web = Web(2, [(0, 1, (9, 1), (9, 1), (9, 1))] * 2 + [(0, 1, ONE, (4, 1), (2, 1))])
        at = pair(Fraction(3) / (1 - Fraction(4, 9)))
        self.told([(ZERO, at, ((2, 0),)), (at, None, ((0, 0),))], best_spans, web, 0, 1)

    def test_three_routes_that_meet_at_one_amount(self):
        # By rates of 9, 4 and 1 they all bring just this much for this amount: the second one is best nowhere else.
        for amount, much in ((1, Fraction(1, 2)), (100, 10)):
            stalls = []
            for root in (3, 2, 1):
                slow = root * root / Fraction(much) - Fraction(1, amount)
                stalls.append((0, 1, pair(1 / slow), pair(root * root / slow), pair(root / slow)))
            for order in permutations(range(3)):
                web = Web(2, [stalls[index] for index in order])
                outs = [route_out(web, ((index, 0),), (amount, 1)) for index in range(3)]
                self.assertEqual([pair(much)] * 3, outs)
                spans = best_spans(web, 0, 1)
                self.assertEqual(((amount, 1), None, ((order.index(2), 0),)), spans[-1])
                self.assertEqual(((amount, 1), ((order.index(0), 0),)), spans[-2][1:])
                self.assertNotIn(((order.index(1), 0),), [route for _, _, route in spans])
                self.spans_are_best(web, 0, 1, spans)
                self.told((pair(much), ((0, 0),)), best_route, web, 0, 1, (amount, 1))

    def test_they_are_the_best_routes_everywhere(self):
        many = 0
        for web in webs(214, 70, 3, 4):
            for one, other in permutations(range(web.wares), 2):
                spans = best_spans(web, one, other)
                self.told(spans[:], best_spans, web, one, other)
                many = max(many, len(spans))
                self.spans_are_best(web, one, other, spans)
        self.assertTrue(many >= 2)

    def test_spans_of_stalls_side_by_side(self):
        chance = random.Random(215)
        many = 0
        for _ in range(25):
            rows = []
            for _ in range(chance.randint(2, 5)):
                held, root = some_number(chance) * chance.choice([1, 10, 100]), some_number(chance) * 10
                rows.append((0, 1, pair(held), pair(root * root / held), pair(root)))
            web = Web(2, rows)
            spans = best_spans(web, 0, 1)
            many = max(many, len(spans))
            self.spans_are_best(web, 0, 1, spans)
        self.assertTrue(many >= 3)

    def spans_are_best(self, web, one, other, spans):
        routes = all_routes(web, one, other)
        self.assertEqual(bool(routes), bool(spans))
        if not routes:
            return
        rules = {route: route_rule(web, route) for route in routes}
        self.assertEqual(ZERO, spans[0][0])
        self.assertIsNone(spans[-1][1])
        for before, behind in zip(spans, spans[1:]):
            self.assertEqual(before[1], behind[0])
            self.assertTrue(worth(before[0]) < worth(before[1]))
            self.assertNotEqual(rules[before[2]], rules[behind[2]])
            self.assertEqual(before[1], meeting(web, before[2], behind[2]))
        for start, end, route in spans:
            self.assertEqual(min(at for at in routes if rules[at] == rules[route]), route)
            begin = worth(start)
            stop = worth(end) if end else begin * 2 + 10 ** 6
            for part in (Fraction(1, 1000), Fraction(1, 2), Fraction(999, 1000)):
                amount = begin + (stop - begin) * part
                self.assertEqual(pair(brought(web, route, amount)), best_route(web, one, other, pair(amount))[0])
            if end:
                self.assertEqual(pair(brought(web, route, stop)), best_route(web, one, other, end)[0])


if __name__ == "__main__":
    unittest.main()
