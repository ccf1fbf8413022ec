"""Moves and deals: what a customer puts into stalls and takes out of them."""

from rootstalls.errors import (
    BadAmount, BadDeal, BadIndex, BadMove, BadPurse, BadWish, OtherStalls,
)
from rootstalls.reckoning import (
    added, are_amounts, divided, is_integer, is_row, is_some, lessened, lies_below, squared,
    summed,
)
from rootstalls.webs import Web, held, kept_of

MOST_MOVES = 200


def is_index(web, thing):
    """Whether a thing is the index of a stall."""
    return is_integer(thing) and 0 <= thing < len(web.stalls)


def is_move(web, thing):
    """Whether a thing is a move of the web."""
    if not isinstance(thing, tuple) or len(thing) != 3:
        return False
    index, ware, amount = thing
    if not is_index(web, index) or not is_integer(ware):
        return False
    return ware in web.stalls[index][:2] and is_some(amount)


def check_purse(web, purse):
    """Asks for an amount of each ware to begin with."""
    if not is_row(purse) or not are_amounts(purse, web.wares):
        raise BadPurse()


def check_wish(web, wish):
    """Asks for an amount of each ware to end with."""
    if not is_row(wish) or not are_amounts(wish, web.wares):
        raise BadWish()


def check_some(amount):
    """Asks for some amount."""
    if not is_some(amount):
        raise BadAmount()


def row_of(web, amounts):
    """For each ware the sum of the amounts of it, told as pairs of a ware and an amount."""
    return [
        summed([amount for one, amount in amounts if one == ware]) for ware in range(web.wares)
    ]


def stall_led(stall, amount):
    """The stall, holding this amount of its first ware."""
    return (stall[0], stall[1], amount, divided(squared(stall[4]), amount), stall[4])


def stall_behind(stall, ware, amount):
    """The stall behind a move that puts this amount of the ware into it."""
    one, other, kept, other_kept, root = stall
    if ware == one:
        return stall_led(stall, added(kept, amount))
    other_more = added(other_kept, amount)
    return (one, other, divided(squared(root), other_more), other_more, root)


def taken_out(before, behind, ware):
    """What came out of a stall of the ware that was not put in."""
    if ware == before[0]:
        return lessened(before[3], behind[3])
    return lessened(before[2], behind[2])


def out_of(web, move):
    """How much comes out of the stall of a move."""
    if not is_move(web, move):
        raise BadMove()
    index, ware, amount = move
    stall = web.stalls[index]
    return taken_out(stall, stall_behind(stall, ware, amount), ware)


def stalls_behind(stalls, move):
    """The tuple of the stalls behind a move."""
    index, ware, amount = move
    return stalls[:index] + (stall_behind(stalls[index], ware, amount),) + stalls[index + 1:]


def with_stall(web, index, stall):
    """The web with another stall in the place of this one."""
    return Web(web.wares, web.stalls[:index] + (stall,) + web.stalls[index + 1:])


def moved(web, move):
    """The web behind a move."""
    if not is_move(web, move):
        raise BadMove()
    return Web(web.wares, stalls_behind(web.stalls, move))


def led(web, index, amount):
    """The web in which a stall holds this amount of its first ware."""
    if not is_index(web, index):
        raise BadIndex()
    check_some(amount)
    return with_stall(web, index, stall_led(web.stalls[index], amount))


def deal_fault(web, thing):
    """The index of the first thing that is no move, -1 for no row of moves, None for a deal."""
    if not is_row(thing) or len(thing) > MOST_MOVES:
        return -1
    for index, move in enumerate(thing):
        if not is_move(web, move):
            return index
    return None


def check_deal(web, purse, deal):
    """Asks for a purse and a deal."""
    check_purse(web, purse)
    fault = deal_fault(web, deal)
    if fault is not None:
        raise BadDeal(fault)


def web_behind(web, deal):
    """The web behind a deal."""
    stalls = web.stalls
    for move in deal:
        stalls = stalls_behind(stalls, move)
    return Web(web.wares, stalls)


def left_with(web, purse, behind):
    """What a customer has of each ware who came with a purse and has led the web to the one behind."""
    # What stalls and customer have together never changes, so the moves need not be paid one by one.
    return tuple([added(amount, more) for amount, more in zip(purse, change_of(web, behind))])


def played(web, purse, deal):
    """The web behind a deal, and what the customer has of each ware then."""
    check_deal(web, purse, deal)
    behind = web_behind(web, deal)
    return (behind, left_with(web, purse, behind))


def owes(web, purse, deal):
    """The first move behind which the customer owes, and the least ware owed; None if there is none."""
    check_deal(web, purse, deal)
    stock = held(web)
    stalls = web.stalls
    for at, move in enumerate(deal):
        stalls = stalls_behind(stalls, move)
        # Nothing was owed up to here, so nothing but the ware put in can be owed now.
        ware = move[1]
        whole = added(purse[ware], stock[ware])
        if lies_below(whole, kept_of(ware, stalls)):
            return (at, ware)
    return None


def is_deal(web, purse, wish, thing):
    """Whether a thing is a deal, a list, behind which the customer has the wish."""
    check_purse(web, purse)
    check_wish(web, wish)
    if not isinstance(thing, list) or deal_fault(web, thing) is not None:
        return False
    left = played(web, purse, thing)[1]
    return not any([lies_below(has, least) for has, least in zip(left, wish)])


def move_to(index, stall, amount):
    """The move by which a stall comes to hold another amount of its first ware."""
    if lies_below(stall[2], amount):
        return (index, stall[0], lessened(amount, stall[2]))
    return (index, stall[1], lessened(stall_led(stall, amount)[3], stall[3]))


def stands_alike(one, other):
    """Whether two stalls stand between the same wares, told in one way, with the same root."""
    return one[:2] == other[:2] and one[4] == other[4]


def check_alike(one_web, other_web):
    """Asks for two webs whose stalls stand alike, one by one."""
    if one_web.wares != other_web.wares or len(one_web.stalls) != len(other_web.stalls):
        raise OtherStalls()
    for one, other in zip(one_web.stalls, other_web.stalls):
        if not stands_alike(one, other):
            raise OtherStalls()


def moves_between(one_web, other_web):
    """The moves that lead the one web to the other one, one for each stall that is unlike."""
    check_alike(one_web, other_web)
    return [
        move_to(index, stall, other_web.stalls[index][2])
        for index, stall in enumerate(one_web.stalls)
        if stall != other_web.stalls[index]
    ]


def change_of(one_web, other_web):
    """What whoever leads the one web to the other one has more of each ware then."""
    check_alike(one_web, other_web)
    before = held(one_web)
    behind = held(other_web)
    return tuple([lessened(before[ware], behind[ware]) for ware in range(one_web.wares)])
