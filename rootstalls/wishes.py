"""Whether some deal meets a wish: the scales by which, or the bar against it."""

from rootstalls.deals import check_purse, check_wish, move_to
from rootstalls.errors import BadScales
from rootstalls.reckoning import (
    ONE, TWO, ZERO, added, are_amounts, divided, lies_below, multiplied, squared, summed,
)
from rootstalls.striking import may_stay, strike_row, table_of
from rootstalls.webs import roots


def are_some(things, number):
    """Whether a thing is a tuple of just so many amounts above 0."""
    if not isinstance(things, tuple) or not are_amounts(things, number):
        return False
    return all([thing[0] > 0 for thing in things])


def check_scales(web, thing):
    """Asks for a tuple with some amount for each ware."""
    if not are_some(thing, web.wares):
        raise BadScales()


def filled_back(steps, amounts, alone):
    """Amounts for the struck wares too, from those of the wares that are left.

    Behind the last step first, each gets the amount with which its row of the table comes to 0,
    or this one if it was struck alone, without ties.
    """
    filled = {ware: amounts[ware] for ware in amounts}
    for ware, slant, ties in reversed(steps):
        if ties:
            beside = [multiplied(ties[other], filled[other]) for other in ties]
            filled[ware] = divided(summed(beside), slant)
        else:
            filled[ware] = alone
    return filled


def in_order(filled):
    """The amounts of all wares as a tuple."""
    return tuple([filled[ware] for ware in range(len(filled))])


def struck_in_turn(web, purse, wish):
    """What comes of striking all wares by their numbers."""
    check_purse(web, purse)
    check_wish(web, wish)
    return strike_row(table_of(web, purse, wish), list(range(web.wares)))


def scales(web, purse, wish):
    """Scales by which the stalls can be led so that the wish is met, None if there are none."""
    steps, _, wrong = struck_in_turn(web, purse, wish)
    if wrong is not None:
        return None
    return in_order(filled_back(steps, {}, ONE))


def is_scales(web, purse, wish, thing):
    """Whether a thing is such scales."""
    check_purse(web, purse)
    check_wish(web, wish)
    if not are_some(thing, web.wares):
        return False
    stay = may_stay(web, purse, wish)
    between = roots(web)
    for ware in range(web.wares):
        row = [multiplied(between[ware][other], thing[other]) for other in range(web.wares)]
        if lies_below(multiplied(stay[ware], thing[ware]), summed(row)):
            return False
    return True


def bar_left(table, wrong):
    """Amounts for the wares that are left, one of which has a wrong sign, that keep the wish off."""
    amounts = {ware: ZERO for ware in table.slants}
    amounts[wrong] = ONE
    if table.slants[wrong][0] == 0:
        # A slant of 0 by itself tips nothing: with enough of it a tied ware does, whatever its slant.
        other = min(table.ties[wrong])
        slant = table.slants[other]
        enough = added(ONE, (abs(slant[0]), slant[1]))
        amounts[other] = ONE
        amounts[wrong] = divided(enough, table.ties[wrong][other])
    return amounts


def bar(web, purse, wish):
    """A bar against the wish, None if there is none."""
    steps, table, wrong = struck_in_turn(web, purse, wish)
    if wrong is None:
        return None
    return in_order(filled_back(steps, bar_left(table, wrong), ZERO))


def over_wares(stay, amounts):
    """The sum over all wares of this of each, times the square of its amount."""
    return summed([multiplied(one, squared(amount)) for one, amount in zip(stay, amounts)])


def over_stalls(web, amounts):
    """The sum over all stalls of the double of the root, times the amounts of both its wares."""
    return summed([
        multiplied(multiplied(TWO, stall[4]), multiplied(amounts[stall[0]], amounts[stall[1]]))
        for stall in web.stalls
    ])


def both_sums(web, purse, wish, amounts):
    """The sum over all wares and the sum over all stalls that make a bar."""
    return (over_wares(may_stay(web, purse, wish), amounts), over_stalls(web, amounts))


def is_bar(web, purse, wish, thing):
    """Whether a thing is a bar against the wish."""
    check_purse(web, purse)
    check_wish(web, wish)
    if not isinstance(thing, tuple) or not are_amounts(thing, web.wares):
        return False
    # Amounts of 0 all over need no test of their own: both sums are 0 then.
    ware_sum, stall_sum = both_sums(web, purse, wish, thing)
    return lies_below(ware_sum, stall_sum)


def deal_by(web, scales):
    """The moves that lead the stalls by these scales, one for each stall that has to change."""
    check_scales(web, scales)
    moves = []
    for index, stall in enumerate(web.stalls):
        one, other = stall[:2]
        amount = divided(multiplied(stall[4], scales[other]), scales[one])
        if amount != stall[2]:
            moves.append(move_to(index, stall, amount))
    return moves


def deal_for(web, purse, wish):
    """A deal that meets the wish, None if there is none."""
    found = scales(web, purse, wish)
    if found is None:
        return None
    return deal_by(web, found)
