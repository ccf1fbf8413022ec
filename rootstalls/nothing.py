"""Whether a web fits, and what can be had for nothing where it does not."""

from rootstalls.brims import brim, brim_deal
from rootstalls.deals import is_index
from rootstalls.errors import BadOrder, NotFit
from rootstalls.reckoning import ONE, ZERO, divided, is_integer, multiplied
from rootstalls.striking import is_order
from rootstalls.webs import across, hold_of, pieces


def ways(web):
    """For each ware a way to it from the first ware of its piece, in pairs as those of a ring."""
    found = {piece[0]: () for piece in pieces(web)}
    while len(found) < web.wares:
        for index, stall in enumerate(web.stalls):
            for ware in stall[:2]:
                beyond = across(stall, ware)
                if ware in found and beyond not in found:
                    found[beyond] = found[ware] + ((index, ware),)
    return found


def number_behind(web, way):
    """The number of the ware behind a way, if that of the ware ahead of it is 1."""
    number = ONE
    for index, ware in way:
        stall = web.stalls[index]
        number = multiplied(number, divided(hold_of(stall, ware), stall[4]))
    return number


def numbers_by(web, found):
    """The numbers of all wares by these ways to them."""
    return tuple([number_behind(web, found[ware]) for ware in range(web.wares)])


def misfit(web, numbers):
    """The index of the first stall that does not hold what these numbers ask, None if each does."""
    for index, stall in enumerate(web.stalls):
        one, other = stall[:2]
        if multiplied(stall[2], numbers[one]) != multiplied(stall[4], numbers[other]):
            return index
    return None


def fit(web):
    """The numbers with which the web fits, 1 at the first ware of each piece; None if it does not."""
    numbers = numbers_by(web, ways(web))
    if misfit(web, numbers) is None:
        return numbers
    return None


def check_fit(web):
    """The numbers of a web that has to fit."""
    numbers = fit(web)
    if numbers is None:
        raise NotFit()
    return numbers


def fitting_stall(one, other, root, numbers):
    """The stall with this root that holds what these numbers ask."""
    part = divided(numbers[other], numbers[one])
    return (one, other, multiplied(root, part), divided(root, part), root)


def tie_of(stall, numbers):
    """The tie of a stall: its root times the numbers of both its wares."""
    return multiplied(stall[4], multiplied(numbers[stall[0]], numbers[stall[1]]))


def turned(web, way):
    """A way the other way round."""
    return tuple([(index, across(web.stalls[index], ware)) for index, ware in reversed(way)])


def uneven_ring(web):
    """A ring that is uneven, None if the web fits."""
    found = ways(web)
    index = misfit(web, numbers_by(web, found))
    if index is None:
        return None
    one, other = web.stalls[index][:2]
    there = found[other]
    back = found[one]
    # A ring goes along no stall twice, so it turns round where both ways part.
    while there and back and there[0] == back[0]:
        there = there[1:]
        back = back[1:]
    return ((index, one),) + turned(web, there) + back


def is_step(web, thing):
    """Whether a thing is a pair of the index of a stall and one of its wares."""
    if not isinstance(thing, tuple) or len(thing) != 2:
        return False
    index, ware = thing
    return is_index(web, index) and is_integer(ware) and ware in web.stalls[index][:2]


def end_of(web, step):
    """The ware that a step leads to."""
    index, ware = step
    return across(web.stalls[index], ware)


def is_walk(web, thing):
    """Whether a thing is a tuple of one step or more of unlike stalls, each from where the last one ends."""
    if not isinstance(thing, tuple) or not 0 < len(thing) <= len(web.stalls):
        return False
    if not all([is_step(web, step) for step in thing]):
        return False
    if len(set([index for index, ware in thing])) < len(thing):
        return False
    return all([end_of(web, step) == after[1] for step, after in zip(thing, thing[1:])])


def is_ring(web, thing):
    """Whether a thing is a ring of one pair or more."""
    return is_walk(web, thing) and end_of(web, thing[-1]) == thing[0][1]


def is_uneven(web, ring):
    """Whether a ring is uneven."""
    ahead = ONE
    behind = ONE
    for index, ware in ring:
        stall = web.stalls[index]
        ahead = multiplied(ahead, hold_of(stall, ware))
        behind = multiplied(behind, hold_of(stall, across(stall, ware)))
    return ahead != behind


def is_uneven_ring(web, thing):
    """Whether a thing is an uneven ring."""
    return is_ring(web, thing) and is_uneven(web, thing)


def for_nothing(web, ware):
    """The most of a ware that can be had for nothing."""
    return brim(web, [ZERO] * web.wares, ware)


def taking(web, ware):
    """Moves that bring it and leave the stalls of other pieces as they are."""
    return brim_deal(web, [ZERO] * web.wares, ware)


def uneven_pieces(web):
    """The pieces in which something can be had for nothing."""
    return [piece for piece in pieces(web) if for_nothing(web, piece[0]) != ZERO]


def taken_in(web, order):
    """What each takes for nothing, one behind another, each all of a ware of their own."""
    if not is_order(web.wares, order):
        raise BadOrder()
    # Behind the first one of a piece it fits, and the others of it find nothing.
    places = [min([order.index(ware) for ware in piece]) for piece in pieces(web)]
    return [
        for_nothing(web, ware) if place in places else ZERO
        for place, ware in enumerate(order)
    ]
