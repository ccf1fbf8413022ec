"""The table of a web, a purse and a wish, and striking wares out of it."""

from rootstalls.deals import check_purse, check_wish
from rootstalls.errors import BadOrder
from rootstalls.reckoning import (
    ZERO, added, divided, is_integer, lessened, multiplied, squared,
)
from rootstalls.webs import held, roots


class Table:
    """The wares that are left: `slants` has the slant of each, `ties` its roots above 0.

    A table never changes: striking a ware makes another one.
    """

    def __init__(self, slants, ties):
        self.slants = slants
        self.ties = ties

    def wrong_sign(self, ware):
        """Whether the slant of a ware has a wrong sign."""
        top = self.slants[ware][0]
        return top < 0 or (top == 0 and len(self.ties[ware]) > 0)

    def behind(self, ware):
        """The table behind a strike of a ware whose slant has no wrong sign."""
        slant = self.slants[ware]
        beside = self.ties[ware]
        slants = {one: self.slants[one] for one in self.slants if one != ware}
        ties = {one: self.ties_without(one, ware) for one in slants}
        for one in beside:
            slants[one] = lessened(slants[one], divided(squared(beside[one]), slant))
            share = divided(beside[one], slant)
            for other in beside:
                if other != one:
                    root = ties[one].get(other, ZERO)
                    ties[one][other] = added(root, multiplied(share, beside[other]))
        return Table(slants, ties)

    def ties_without(self, one, ware):
        """The ties of one ware without that to another one."""
        beside = self.ties[one]
        return {other: beside[other] for other in beside if other != ware}

    def among(self, wares):
        """The table of these wares alone, the slants and the ties between them as they are."""
        ties = {one: self.ties[one] for one in wares}
        return Table(
            {one: self.slants[one] for one in wares},
            {one: {other: ties[one][other] for other in ties[one] if other in wares} for one in wares},
        )

    def with_more(self, ware, amount):
        """The table when the purse has so much more, or less, of a ware that is left."""
        slants = {one: self.slants[one] for one in self.slants}
        slants[ware] = added(slants[ware], amount)
        return Table(slants, self.ties)


def may_stay(web, purse, wish):
    """What may stay of each ware."""
    stock = held(web)
    return [
        lessened(added(stock[ware], purse[ware]), wish[ware])
        for ware in range(web.wares)
    ]


def table_of(web, purse, wish):
    """The table of a right web, purse and wish, all wares being left."""
    between = roots(web)
    wares = list(range(web.wares))
    slants = dict(enumerate(may_stay(web, purse, wish)))
    ties = {
        one: {other: between[one][other] for other in wares if between[one][other] != ZERO}
        for one in wares
    }
    return Table(slants, ties)


def strike_row(table, order):
    """Strikes wares by an order, up to the first one whose slant has a wrong sign.

    Gives the steps, each the ware with the slant and the ties that it had when it was struck,
    the table that is left, and the ware with the wrong sign, None if there is none.
    """
    steps = []
    for ware in order:
        if table.wrong_sign(ware):
            return (steps, table, ware)
        steps.append((ware, table.slants[ware], table.ties[ware]))
        table = table.behind(ware)
    return (steps, table, None)


def all_struck(table):
    """Whether all wares of a table can be struck without a wrong sign."""
    return strike_row(table, list(table.slants))[2] is None


def is_met(web, purse, wish):
    """Whether some deal meets the wish, all of them being right."""
    return all_struck(table_of(web, purse, wish))


def is_order(number, thing):
    """Whether a thing is a tuple with each number from 0 on below this one once."""
    if not isinstance(thing, tuple) or len(thing) != number:
        return False
    return all([is_integer(one) for one in thing]) and sorted(thing) == list(range(number))


def struck(web, purse, wish, order):
    """Whether all wares can be struck, and the slants that they had, the first wrong one last."""
    check_purse(web, purse)
    check_wish(web, wish)
    if not is_order(web.wares, order):
        raise BadOrder()
    steps, table, wrong = strike_row(table_of(web, purse, wish), order)
    slants = [slant for ware, slant, ties in steps]
    if wrong is None:
        return (True, slants)
    return (False, slants + [table.slants[wrong]])
