"""Trees and two-tree forests one by one, the sum over all rooted ones, and small webs."""

from itertools import combinations

from rootstalls.deals import check_purse
from rootstalls.drags import check_tied, product_struck
from rootstalls.errors import TooMany
from rootstalls.nothing import check_fit, fitting_stall
from rootstalls.reckoning import ZERO
from rootstalls.striking import strike_row, table_of
from rootstalls.told import left_table
from rootstalls.webs import MOST_STALLS, Web, check_two, joined

MOST_FORESTS = 200


def firsts_behind(web, indexes):
    """The first ware of the piece of each ware by these stalls alone, None if they close a ring."""
    firsts = list(range(web.wares))
    for index in indexes:
        one, other = web.stalls[index][:2]
        if firsts[one] == firsts[other]:
            return None
        firsts = joined(firsts, web.stalls[index])
    return firsts


def listed(web, many, apart):
    """The ascending list of the forests of so many stalls, those alone by which all of these are apart."""
    indexes = list(range(len(web.stalls)))
    found = []
    for part in combinations(indexes, many):
        firsts = firsts_behind(web, part)
        if firsts is not None and len(set([firsts[ware] for ware in apart])) == len(apart):
            found.append(part)
    if len(found) > MOST_FORESTS:
        raise TooMany(MOST_FORESTS)
    return found


def all_trees(web):
    """The ascending list of the trees, each the ascending tuple of its stalls."""
    check_tied(web)
    return listed(web, web.wares - 1, ())


def all_two_trees(web, one, other):
    """The ascending list of the two-tree forests of two wares."""
    check_tied(web)
    check_two(web, one, other)
    return listed(web, web.wares - 2, (one, other))


def rooted(web, gifts):
    """The sum over all rooted forests of their ties and of the worths of the gifts of their roots."""
    numbers = check_fit(web)
    check_purse(web, gifts)
    table = table_of(web, gifts, [ZERO] * web.wares)
    return product_struck(strike_row(table, list(range(web.wares)))[0], numbers)


def small_web(web, told):
    """The web that fits and does the same between told wares, with one stall between each two tied."""
    numbers = check_fit(web)
    roots = left_table(web, told)[1]
    places = list(range(len(told)))
    stalls = [
        fitting_stall(told[one], told[other], roots[one][other], numbers)
        for one, other in combinations(places, 2) if roots[one][other] != ZERO
    ]
    if len(stalls) > MOST_STALLS:
        raise TooMany(MOST_STALLS)
    return Web(web.wares, stalls)
