"""Routes: what is put into one stall comes out and is put into the next one.

While routes are compared, their rules are triples (many, base, slow) of integers: of p that is put
in first, many times p comes out last, divided by the sum of base and slow times p. Several triples
may be one rule: they are not brought to lowest terms, which would take longer than all the rest.
"""

from rootstalls.deals import check_some, out_of
from rootstalls.errors import BadRoute
from rootstalls.nothing import end_of, is_walk
from rootstalls.reckoning import ZERO, lies_below, lowest
from rootstalls.webs import across, check_two, hold_of

# Of nothing done at all just as much comes out as is put in.
NO_STEPS = (1, 1, 0)


def check_route(web, thing):
    """Asks for a route."""
    if not is_walk(web, thing):
        raise BadRoute()


def rule_behind(rule, stall, ware):
    """The rule of a route that goes on from a ware along a stall more."""
    many, base, slow = rule
    kept = hold_of(stall, ware)
    beyond = hold_of(stall, across(stall, ware))
    return (
        many * beyond[0] * kept[1],
        base * kept[0] * beyond[1],
        (slow * kept[0] + many * kept[1]) * beyond[1],
    )


def rule_of(web, route):
    """The rule of a route."""
    check_route(web, route)
    rule = NO_STEPS
    for index, ware in route:
        rule = rule_behind(rule, web.stalls[index], ware)
    return rule


def out_by(rule, amount):
    """What comes out by a rule when some amount is put in, as a top and a bottom."""
    many, base, slow = rule
    return (many * amount[0], base * amount[1] + slow * amount[0])


def rate_of(rule):
    """The rate of a rule, as a top and a bottom."""
    return (rule[0], rule[1])


def slow_of(rule):
    """How slow a rule is, as a top and a bottom."""
    return (rule[2], rule[1])


def route_rule(web, route):
    """The pair (rate, slow) by which what comes out last follows from what is put in first."""
    rule = rule_of(web, route)
    return (lowest(rule[0], rule[1]), lowest(rule[2], rule[1]))


def route_out(web, route, amount):
    """What comes out last when some amount is put in first."""
    rule = rule_of(web, route)
    check_some(amount)
    top, bottom = out_by(rule, amount)
    return lowest(top, bottom)


def route_deal(web, route, amount):
    """The moves of a route when some amount is put in first."""
    check_route(web, route)
    check_some(amount)
    moves = []
    for index, ware in route:
        move = (index, ware, amount)
        moves.append(move)
        # No stall is used twice, so each is met as it is in the web.
        amount = out_of(web, move)
    return moves


def ends_of(web, route):
    """The ware that a route begins at and the one that it ends at."""
    return (route[0][1], end_of(web, route[-1]))


def meeting_of(rule, other):
    """The some amount for which two rules bring the same, as a top and a bottom above 0.

    None if there is none, or if they bring the same for all.
    """
    top = rule[0] * other[1] - other[0] * rule[1]
    bottom = other[0] * rule[2] - rule[0] * other[2]
    if bottom < 0:
        top, bottom = -top, -bottom
    if bottom == 0 or top <= 0:
        return None
    return (top, bottom)


def meeting(web, one, other):
    """The some amount for which two routes between the same wares bring the same, None if there is none."""
    rule = rule_of(web, one)
    other_rule = rule_of(web, other)
    if ends_of(web, one) != ends_of(web, other):
        raise BadRoute()
    found = meeting_of(rule, other_rule)
    if found is None:
        return None
    return lowest(found[0], found[1])


def routes_on(web, ware, goal, begun, rule):
    """The ascending list of the routes to a goal that go on from a ware, each with its rule.

    All of them begin with the steps that have been made, by this rule.
    """
    used = [index for index, _ in begun]
    found = []
    for index, stall in enumerate(web.stalls):
        if ware in stall[:2] and index not in used:
            route = begun + ((index, ware),)
            behind = rule_behind(rule, stall, ware)
            beyond = across(stall, ware)
            if beyond == goal:
                found.append((route, behind))
            found.extend(routes_on(web, beyond, goal, route, behind))
    return found


def best_route(web, one, other, amount):
    """The most that a route brings for some amount, and the least route that does; None without a route."""
    check_two(web, one, other)
    check_some(amount)
    most = best = None
    for route, rule in routes_on(web, one, other, (), NO_STEPS):
        out = out_by(rule, amount)
        if best is None or lies_below(most, out):
            most, best = out, route
    if best is None:
        return None
    return (lowest(most[0], most[1]), best)


def is_better_first(rule, other):
    """Whether one rule brings more than the other one for amounts that are little enough."""
    if lies_below(rate_of(other), rate_of(rule)):
        return True
    return not lies_below(rate_of(rule), rate_of(other)) and lies_below(slow_of(rule), slow_of(other))


def first_of(pairs):
    """The first pair of a route and its rule that is best for amounts that are little enough."""
    best = pairs[0]
    for pair in pairs:
        if is_better_first(pair[1], best[1]):
            best = pair
    return best


def is_sooner(amount, rule, found, found_rule):
    """Whether a rule is best from an amount on, rather than one from an amount that has been found."""
    if lies_below(amount, found):
        return True
    # Of several that meet there the one with the least rate is best behind.
    return not lies_below(found, amount) and lies_below(rate_of(rule), rate_of(found_rule))


def next_of(pairs, best):
    """The amount from which another route is best, when one is up to there, and the first pair of it.

    The amount is None if there is none.
    """
    found = None
    after = best
    for pair in pairs:
        # Two rules meet at most once, and behind that the one with the lesser rate is better.
        if lies_below(rate_of(pair[1]), rate_of(best[1])):
            amount = meeting_of(best[1], pair[1])
            if amount is not None and (found is None or is_sooner(amount, pair[1], found, after[1])):
                found, after = amount, pair
    return (found, after)


def best_spans(web, one, other):
    """From which amount to which a route is best, by rising amounts from 0 on; None for the last end."""
    check_two(web, one, other)
    pairs = routes_on(web, one, other, (), NO_STEPS)
    if not pairs:
        return []
    best = first_of(pairs)
    start = ZERO
    spans = []
    amount, after = next_of(pairs, best)
    while amount is not None:
        end = lowest(amount[0], amount[1])
        spans.append((start, end, best[0]))
        start, best = end, after
        amount, after = next_of(pairs, best)
    spans.append((start, None, best[0]))
    return spans
