"""Webs of stalls, and what their stalls hold."""

from rootstalls.errors import BadFraction, BadStall, BadWare, BadWares
from rootstalls.reckoning import (
    ZERO, added, is_integer, is_row, is_some, multiplied, square_root, squared, summed,
)

MOST_WARES = 8
MOST_STALLS = 16


def is_stall(wares, thing):
    """Whether a thing is a stall between two of so many wares."""
    if not isinstance(thing, tuple) or len(thing) != 5:
        return False
    one, other, kept, other_kept, root = thing
    for ware in (one, other):
        if not is_integer(ware) or not 0 <= ware < wares:
            return False
    if one == other or not (is_some(kept) and is_some(other_kept) and is_some(root)):
        return False
    return multiplied(kept, other_kept) == squared(root)


class Web:
    """So many wares, and the stalls between them."""

    def __init__(self, wares, stalls):
        if not is_integer(wares) or not 1 <= wares <= MOST_WARES:
            raise BadWares()
        if not is_row(stalls) or len(stalls) > MOST_STALLS:
            raise BadStall(-1)
        for index, stall in enumerate(stalls):
            if not is_stall(wares, stall):
                raise BadStall(index)
        self.wares = wares
        self.stalls = tuple(stalls)

    def __eq__(self, other):
        return isinstance(other, Web) and self.wares == other.wares and self.stalls == other.stalls


def root_of(held, other):
    """The amount whose square is the product of two amounts, None if no fraction is."""
    if not is_some(held):
        raise BadFraction(0)
    if not is_some(other):
        raise BadFraction(1)
    return square_root(multiplied(held, other))


def is_ware(web, thing):
    """Whether a thing is a ware of the web."""
    return is_integer(thing) and 0 <= thing < web.wares


def check_ware(web, ware):
    """Asks for a ware of the web."""
    if not is_ware(web, ware):
        raise BadWare()


def check_two(web, one, other):
    """Asks for two unlike wares of the web."""
    check_ware(web, one)
    check_ware(web, other)
    if one == other:
        raise BadWare()


def across(stall, ware):
    """The other ware of a stall."""
    if ware == stall[0]:
        return stall[1]
    return stall[0]


def hold_of(stall, ware):
    """What a stall holds of one of its wares."""
    if ware == stall[0]:
        return stall[2]
    return stall[3]


def stalls_of(ware, stalls):
    """Those of such stalls that stand at a ware."""
    return [stall for stall in stalls if ware in stall[:2]]


def without_these(web, indexes):
    """The web without some stalls."""
    return Web(web.wares, [stall for index, stall in enumerate(web.stalls) if index not in indexes])


def kept_of(ware, stalls):
    """What such stalls hold of a ware together."""
    return summed([hold_of(stall, ware) for stall in stalls_of(ware, stalls)])


def held(web):
    """What all stalls together hold of each ware."""
    return tuple([kept_of(ware, web.stalls) for ware in range(web.wares)])


def roots(web):
    """For each two wares the sum of the roots of the stalls between them."""
    rows = [[ZERO] * web.wares for _ in range(web.wares)]
    for stall in web.stalls:
        one, other = stall[:2]
        rows[one][other] = added(rows[one][other], stall[4])
        rows[other][one] = rows[one][other]
    return tuple([tuple(row) for row in rows])


def neighbours(web, ware):
    """The ascending tuple of the wares to which a stall leads from the ware."""
    check_ware(web, ware)
    return tuple(sorted(set([across(stall, ware) for stall in stalls_of(ware, web.stalls)])))


def joined(firsts, stall):
    """The first ware of the piece of each ware, when a stall more joins two pieces."""
    both = (firsts[stall[0]], firsts[stall[1]])
    return [min(both) if first in both else first for first in firsts]


def pieces(web):
    """The wares that hang together by stalls, as ascending tuples, by their first ones."""
    firsts = list(range(web.wares))
    for stall in web.stalls:
        firsts = joined(firsts, stall)
    return [
        tuple([ware for ware in range(web.wares) if firsts[ware] == lead])
        for lead in sorted(set(firsts))
    ]
