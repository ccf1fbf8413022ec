"""As few wares as keep a wish off, and as few stalls as meet it."""

from itertools import combinations

from rootstalls.deals import check_purse, check_wish
from rootstalls.striking import all_struck, is_met, table_of
from rootstalls.webs import without_these


def least_wares(web, purse, wish):
    """The fewest wares whose table alone can't be struck, None if some deal meets the wish."""
    check_purse(web, purse)
    check_wish(web, wish)
    table = table_of(web, purse, wish)
    if all_struck(table):
        return None
    wares = list(range(web.wares))
    for many in range(1, web.wares):
        for part in combinations(wares, many):
            if not all_struck(table.among(part)):
                return part
    return tuple(wares)


def is_met_without(web, purse, wish, indexes):
    """Whether some deal meets the wish that leaves these stalls as they are."""
    # A stall that is left as it is gives nothing and takes nothing: it might as well not stand.
    return is_met(without_these(web, indexes), purse, wish)


def needed(web, purse, wish):
    """The stalls without each of which no deal meets the wish, None if none does anyway."""
    check_purse(web, purse)
    check_wish(web, wish)
    if not is_met(web, purse, wish):
        return None
    indexes = list(range(len(web.stalls)))
    return tuple([index for index in indexes if not is_met_without(web, purse, wish, (index,))])


def fewest_stalls(web, purse, wish):
    """The fewest stalls by which alone some deal meets the wish, None if no deal does."""
    must = needed(web, purse, wish)
    if must is None:
        return None
    indexes = list(range(len(web.stalls)))
    spare = [index for index in indexes if index not in must]
    # Each answer has all that are needed; their being there changes nothing in the order of the others.
    for many in range(len(spare)):
        for part in combinations(spare, many):
            left = [index for index in spare if index not in part]
            if is_met_without(web, purse, wish, left):
                return tuple(sorted(must + part))
    return tuple(indexes)
