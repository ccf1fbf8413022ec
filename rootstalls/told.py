"""What is felt of a web in some told wares, nobody dealing in the others."""

from itertools import combinations

from rootstalls.brims import others_struck
from rootstalls.deals import is_index
from rootstalls.errors import BadIndex, BadTold, NotApart, TooMany
from rootstalls.reckoning import (
    ZERO, are_amounts, divided, is_rising, lessened, lies_below, multiplied, negated, summed,
)
from rootstalls.striking import is_met
from rootstalls.webs import (
    MOST_STALLS, Web, across, check_ware, hold_of, kept_of, stalls_of, without_these,
)


def check_told(web, told):
    """Asks for an ascending tuple of wares, one at least."""
    if not is_rising(web.wares, told) or len(told) == 0:
        raise BadTold()


def left_table(web, told):
    """The slants of the told wares and the roots between them when all others have been struck."""
    check_told(web, told)
    nothing = [ZERO] * web.wares
    table = others_struck(web, nothing, nothing, told)[1]
    rows = [[table.ties[one].get(other, ZERO) for other in told] for one in told]
    return (tuple([table.slants[ware] for ware in told]), tuple([tuple(row) for row in rows]))


def loads(table, weights):
    """For each told ware its slant times its weight, less the roots times the other weights."""
    found = []
    for slant, roots, weight in zip(table[0], table[1], weights):
        beside = [multiplied(root, other) for root, other in zip(roots, weights)]
        found.append(lessened(multiplied(slant, weight), summed(beside)))
    return found


def tilt(table, weights):
    """The sum of the loads, each times its weight."""
    return summed([multiplied(load, weight) for load, weight in zip(loads(table, weights), weights)])


def trials(number):
    """Rows of so many weights above 0 by one of which any two unlike tables tilt unlike."""
    # Tables that tilt alike by all of these have the same slants, by 1, 2, 3 of one ware, and then
    # the same roots, by 2 of two wares.
    places = list(range(number))
    raised = [()] + [(place,) for place in places]
    raised.extend([(one, other) for one in places for other in places[one:]])
    return [[(1 + some.count(place), 1) for place in places] for some in raised]


def parting(one_web, other_web, told):
    """A purse and a wish that one web meets and the other one does not, None for left tables alike."""
    one_table = left_table(one_web, told)
    other_table = left_table(other_web, told)
    if one_table == other_table:
        return None
    weights = [
        row for row in trials(len(told)) if tilt(one_table, row) != tilt(other_table, row)
    ][0]
    flag = lies_below(tilt(other_table, weights), tilt(one_table, weights))
    table = one_table if flag else other_table
    # With the loads taken off its slants this table is just met by the weights as scales, and the
    # other one, which tilts less, has them as a bar.
    off = [divided(load, weight) for load, weight in zip(loads(table, weights), weights)]
    purse = tuple([negated(load) if load[0] < 0 else ZERO for load in off])
    wish = tuple([load if load[0] > 0 else ZERO for load in off])
    return (purse, wish, flag)


def is_met_in(web, told, purse, wish):
    """Whether a web meets a wish of told wares with a purse of them, the others being 0."""
    rows = [
        [row[told.index(ware)] if ware in told else ZERO for ware in range(web.wares)]
        for row in (purse, wish)
    ]
    return is_met(web, rows[0], rows[1])


def is_parting(one_web, other_web, told, thing):
    """Whether a thing is a purse, a wish and a flag that tell which of both webs alone meets it."""
    check_told(one_web, told)
    check_told(other_web, told)
    if not isinstance(thing, tuple) or len(thing) != 3:
        return False
    purse, wish, flag = thing
    for row in (purse, wish):
        if not isinstance(row, tuple) or not are_amounts(row, len(told)):
            return False
    if not isinstance(flag, bool):
        return False
    met = is_met_in(one_web, told, purse, wish)
    return met == flag and is_met_in(other_web, told, purse, wish) != flag


def without(web, index):
    """The web without a stall."""
    if not is_index(web, index):
        raise BadIndex()
    return without_these(web, (index,))


def unfelt(web, told):
    """The stalls without each of which, by itself, the left table is the same."""
    table = left_table(web, told)
    indexes = list(range(len(web.stalls)))
    return tuple([index for index in indexes if left_table(without(web, index), told) == table])


def merged_stall(ware, whole, one_stall, other_stall):
    """The stall in the place of two that stand at a ware of which so much is held as a whole."""
    one = across(one_stall, ware)
    other = across(other_stall, ware)
    held = multiplied(hold_of(one_stall, one), hold_of(other_stall, ware))
    other_held = multiplied(hold_of(other_stall, other), hold_of(one_stall, ware))
    root = multiplied(one_stall[4], other_stall[4])
    return (one, other, divided(held, whole), divided(other_held, whole), divided(root, whole))


def merged(web, ware):
    """The web without the stalls of a ware, with one between each two wares they led to instead."""
    check_ware(web, ware)
    gone = stalls_of(ware, web.stalls)
    beside = {across(stall, ware): stall for stall in gone}
    if len(beside) < len(gone):
        raise NotApart()
    stalls = [stall for stall in web.stalls if ware not in stall[:2]]
    whole = kept_of(ware, gone)
    wares = sorted(beside)
    for one, other in combinations(wares, 2):
        stalls.append(merged_stall(ware, whole, beside[one], beside[other]))
    if len(stalls) > MOST_STALLS:
        raise TooMany(MOST_STALLS)
    return Web(web.wares, stalls)
