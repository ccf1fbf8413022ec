"""Slips: offers of an amount of one ware for at least so much of another one."""

from itertools import combinations

from rootstalls.brims import others_struck
from rootstalls.customers import is_customer, turn_of
from rootstalls.deals import row_of
from rootstalls.errors import BadLot, BadOrder, BadSlip
from rootstalls.reckoning import ZERO, is_rising, is_row, is_some, lies_below, negated
from rootstalls.striking import all_struck, is_met, is_order
from rootstalls.webs import check_ware

MOST_SLIPS = 10


def is_slip(web, thing):
    """Whether a thing is a slip for the web."""
    if not isinstance(thing, tuple) or len(thing) != 4:
        return False
    return is_customer(web, thing[:3]) and is_some(thing[3])


def check_slips(web, slips):
    """Asks for a row of slips."""
    if not is_row(slips) or len(slips) > MOST_SLIPS:
        raise BadSlip(-1)
    for index, slip in enumerate(slips):
        if not is_slip(web, slip):
            raise BadSlip(index)


def check_lot(slips, lot):
    """Asks for an ascending tuple of indexes of slips."""
    if not is_rising(len(slips), lot):
        raise BadLot()


def given(web, slips, lot):
    """What the customers of a lot give of each ware."""
    return row_of(web, [slips[index][:2] for index in lot])


def asked(web, slips, lot):
    """What the customers of a lot ask of each ware."""
    return row_of(web, [slips[index][2:] for index in lot])


def can_fill(web, slips, lot):
    """Whether some deal with all that a lot gives leaves all that it asks."""
    check_slips(web, slips)
    check_lot(slips, lot)
    return is_met(web, given(web, slips, lot), asked(web, slips, lot))


def table_filled(table, slips, lot):
    """The table with all that a lot gives, and less all that it asks."""
    for index in lot:
        ware, amount, other, least = slips[index]
        table = table.with_more(ware, amount).with_more(other, negated(least))
    return table


def is_in_one(lot, found):
    """Whether a lot is a part of one of some lots."""
    return any([all([index in greater for index in lot]) for greater in found])


def lots_besides(table, slips, many, found):
    """The lots of so many slips that can be filled and are no part of one of these."""
    indexes = list(range(len(slips)))
    return [
        lot for lot in combinations(indexes, many)
        if not is_in_one(lot, found) and all_struck(table_filled(table, slips, lot))
    ]


def greatest_lots(web, slips):
    """The ascending list of the lots that can be filled and are no part of a greater one."""
    check_slips(web, slips)
    nothing = [ZERO] * web.wares
    wares = [slip[0] for slip in slips] + [slip[2] for slip in slips]
    # The other wares can be struck once for all lots: a strike takes from the slants of those that
    # are left, whatever they are.
    table = others_struck(web, nothing, nothing, wares)[1]
    found = []
    for fewer in range(len(slips) + 1):
        more = lots_besides(table, slips, len(slips) - fewer, found)
        found.extend(more)
    return sorted(found)


def kept(web, slips, lot, ware):
    """The most of a ware that is left beyond what a lot asks, None if it can't be filled."""
    check_slips(web, slips)
    check_lot(slips, lot)
    check_ware(web, ware)
    given_row = given(web, slips, lot)
    asked_row = asked(web, slips, lot)
    _, table, wrong = others_struck(web, given_row, asked_row, (ware,))
    if wrong is not None or table.slants[ware][0] < 0:
        return None
    return table.slants[ware]


def in_row(web, slips, order):
    """What each customer takes, by the order, one behind another; None for nothing."""
    check_slips(web, slips)
    if not is_order(len(slips), order):
        raise BadOrder()
    amounts = []
    for index in order:
        most, behind = turn_of(web, slips[index][:3])
        if lies_below(most, slips[index][3]):
            amounts.append(None)
        else:
            amounts.append(most)
            web = behind
    return amounts
