"""What all stalls are worth by rates from outside, and how they are levelled to the least worth."""

from rootstalls.errors import BadRates, OtherWares, TooMany
from rootstalls.reckoning import divided, lessened, multiplied, squared
from rootstalls.webs import MOST_STALLS, Web, held
from rootstalls.wishes import are_some, deal_by, over_stalls, over_wares


def check_rates(web, rates):
    """Asks for a tuple with some amount for each ware."""
    if not are_some(rates, web.wares):
        raise BadRates()


def least_worth(web, rates):
    """The least worth that all stalls together can be left with."""
    check_rates(web, rates)
    return over_stalls(web, rates)


def worth_of(web, rates):
    """What all stalls together are worth."""
    check_rates(web, rates)
    return over_wares(held(web), rates)


def levelled(web, rates):
    """The moves, one for each stall that changes, that leave all stalls with their least worth."""
    check_rates(web, rates)
    # A stall is worth the least when it holds of both wares for the same worth: with the rates as scales.
    return deal_by(web, rates)


def taking_of(stall, rates):
    """What whoever levels a stall takes from it by worth."""
    one, other, kept, _, root = stall
    off = lessened(multiplied(kept, rates[one]), multiplied(root, rates[other]))
    return divided(squared(off), kept)


def takings(web, rates):
    """For each stall what whoever levels it takes from it by worth."""
    check_rates(web, rates)
    return [taking_of(stall, rates) for stall in web.stalls]


def together(one_web, other_web):
    """The web with the stalls of the one, then those of the other one."""
    if one_web.wares != other_web.wares:
        raise OtherWares()
    stalls = one_web.stalls + other_web.stalls
    if len(stalls) > MOST_STALLS:
        raise TooMany(MOST_STALLS)
    return Web(one_web.wares, stalls)
