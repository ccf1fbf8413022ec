"""The most of a ware, the least purse, and the rule between two wares."""

from rootstalls.deals import check_purse, check_wish
from rootstalls.errors import BadBar
from rootstalls.reckoning import ONE, ZERO, are_amounts, negated
from rootstalls.striking import strike_row, table_of
from rootstalls.webs import check_two, check_ware, pieces
from rootstalls.wishes import both_sums, deal_by, filled_back, in_order


def others_struck(web, purse, wish, wares):
    """What comes of striking all wares but these."""
    rest = [ware for ware in range(web.wares) if ware not in wares]
    return strike_row(table_of(web, purse, wish), rest)


def others_struck_for_nothing(web, purse, ware):
    """The steps of striking all wares but one with nothing wished, and the table left.

    No slant has a wrong sign there: a deal of no moves at all meets the empty wish.
    """
    check_purse(web, purse)
    check_ware(web, ware)
    steps, table, _ = others_struck(web, purse, [ZERO] * web.wares, (ware,))
    return (steps, table)


def brim(web, purse, ware):
    """The greatest amount of a ware that some deal brings, nothing being owed then."""
    _, table = others_struck_for_nothing(web, purse, ware)
    return table.slants[ware]


def taken(web, purse, ware):
    """The brim, and moves that bring it and leave all stalls of other pieces as they are."""
    steps, table = others_struck_for_nothing(web, purse, ware)
    moves = deal_by(web, in_order(filled_back(steps, {ware: ONE}, ONE)))
    piece = [wares for wares in pieces(web) if ware in wares][0]
    return (table.slants[ware], [move for move in moves if move[1] in piece])


def brim_deal(web, purse, ware):
    """Moves that bring the brim and leave all stalls of other pieces as they are."""
    return taken(web, purse, ware)[1]


def least_more(web, purse, wish, ware):
    """The least amount more of a ware with which the purse meets the wish, None if none does."""
    check_purse(web, purse)
    check_wish(web, wish)
    check_ware(web, ware)
    _, table, wrong = others_struck(web, purse, wish, (ware,))
    if wrong is not None:
        return None
    slant = table.slants[ware]
    if slant[0] < 0:
        return negated(slant)
    return ZERO


def sides(web, purse, wish, bar):
    """The sum over all wares and the sum over all stalls for a tuple of amounts."""
    check_purse(web, purse)
    check_wish(web, wish)
    if not isinstance(bar, tuple) or not are_amounts(bar, web.wares):
        raise BadBar()
    return both_sums(web, purse, wish, bar)


def rule(web, purse, wish, one, other):
    """Both slants of two wares and the root between them when all others have been struck."""
    check_purse(web, purse)
    check_wish(web, wish)
    check_two(web, one, other)
    _, table, wrong = others_struck(web, purse, wish, (one, other))
    if wrong is not None:
        return None
    return (table.slants[one], table.slants[other], table.ties[one].get(other, ZERO))
