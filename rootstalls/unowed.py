"""Deals behind each move of which nothing is owed."""

from rootstalls.deals import is_deal, owes
from rootstalls.nothing import check_fit
from rootstalls.reckoning import divided, lies_below
from rootstalls.wishes import deal_by, scales


def ranks(amounts):
    """For each of some amounts how many of them are below it."""
    return [len([other for other in amounts if lies_below(other, one)]) for one in amounts]


def unowed(web, purse, wish):
    """Moves that meet the wish in a web that fits, none of which leaves a debt; None if no deal does."""
    numbers = check_fit(web)
    led_to = scales(web, purse, wish)
    if led_to is None:
        return None
    quotients = [divided(scale, number) for scale, number in zip(led_to, numbers)]
    # A stall takes in its ware with the lesser quotient. So by rising quotients each ware has come
    # in from all stalls before it goes out, and it goes out down to the wish alone.
    places = ranks(quotients)
    moves = deal_by(web, led_to)
    return sorted(moves, key=lambda move: places[move[1]])


def is_unowed(web, purse, wish, thing):
    """Whether a thing is a deal, a list, that meets the wish and never leaves a debt."""
    return is_deal(web, purse, wish, thing) and owes(web, purse, thing) is None
