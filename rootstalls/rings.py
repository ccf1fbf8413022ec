"""All rings of a web, the stalls that make it uneven, and stars in the place of rings."""

from itertools import combinations

from rootstalls.errors import BadRing, TooMany
from rootstalls.nothing import check_fit, fit, fitting_stall, is_uneven, tie_of
from rootstalls.reckoning import divided, is_rising, multiplied, summed
from rootstalls.webs import MOST_WARES, Web, across, without_these

MOST_RINGS = 200


def rings_on(web, steps):
    """The ascending list of the rings that go on from these steps by stalls behind the first one."""
    start, first = steps[0]
    last, ahead = steps[-1]
    ware = across(web.stalls[last], ahead)
    if ware == first:
        return [steps]
    found = []
    if ware not in [step[1] for step in steps]:
        for index in range(start + 1, len(web.stalls)):
            if ware in web.stalls[index][:2]:
                found.extend(rings_on(web, steps + ((index, ware),)))
    return found


def rings(web):
    """The ascending list of the rings that come by no ware twice, each told by its least tuple."""
    found = []
    for index, stall in enumerate(web.stalls):
        # The least tuple begins with the least stall of the ring, from the lesser one of its wares.
        found.extend(rings_on(web, ((index, min(stall[:2])),)))
    if len(found) > MOST_RINGS:
        raise TooMany(MOST_RINGS)
    return found


def uneven_rings(web):
    """Those of the rings that are uneven."""
    return [ring for ring in rings(web) if is_uneven(web, ring)]


def fewest_struck(web):
    """The fewest stalls without which the web fits."""
    indexes = list(range(len(web.stalls)))
    for many in range(len(web.stalls)):
        for part in combinations(indexes, many):
            if fit(without_these(web, part)) is not None:
                return part
    return tuple(indexes)


def ring_wares(web, thing):
    """The three ascending wares between which an ascending tuple of three stalls makes a ring."""
    if not is_rising(len(web.stalls), thing) or len(thing) != 3:
        raise BadRing()
    spans = [tuple(sorted(web.stalls[index][:2])) for index in thing]
    wares = sorted(set([ware for span in spans for ware in span]))
    # Three unlike pairs out of three wares are all the pairs that there are.
    if len(wares) != 3 or len(set(spans)) != 3:
        raise BadRing()
    return wares


def star_ties(web, indexes, wares, numbers):
    """The tie of the new stall to each of the three wares of a ring."""
    # Each tie of the ring under the ware that its stall does not touch.
    apart = {}
    for index in indexes:
        stall = web.stalls[index]
        apart[sum(wares) - sum(stall[:2])] = tie_of(stall, numbers)
    products = summed([
        multiplied(apart[one], apart[other]) for one, other in combinations(wares, 2)
    ])
    return [divided(products, apart[ware]) for ware in wares]


def star(web, ring):
    """The web with one ware more, that hangs by three stalls in the place of three in a ring."""
    numbers = check_fit(web)
    if web.wares >= MOST_WARES:
        raise TooMany(MOST_WARES)
    wares = ring_wares(web, ring)
    fresh = web.wares
    numbers = numbers + (numbers[wares[0]],)
    stalls = list(without_these(web, ring).stalls)
    for ware, tie in zip(wares, star_ties(web, ring, wares, numbers)):
        root = divided(tie, multiplied(numbers[fresh], numbers[ware]))
        stalls.append(fitting_stall(fresh, ware, root, numbers))
    return Web(web.wares + 1, stalls)
