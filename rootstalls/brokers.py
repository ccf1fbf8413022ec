"""Judging brokers: functions that tell deals."""

from rootstalls.brims import brim
from rootstalls.deals import check_purse, check_wish, deal_fault, is_deal, played
from rootstalls.errors import BadBroker
from rootstalls.reckoning import lessened
from rootstalls.webs import check_ware
from rootstalls.wishes import bar, deal_for


def tried(web, purse, wish, broker):
    """Whether a broker is right, has missed a deal, or is wrong, and the deal or the bar that shows it."""
    check_purse(web, purse)
    check_wish(web, wish)
    # The broker may change the lists that it is called with.
    kept_purse = tuple(purse)
    kept_wish = tuple(wish)
    answer = broker(web, purse, wish)
    if is_deal(web, kept_purse, kept_wish, answer):
        return ("right", list(answer))
    deal = deal_for(web, kept_purse, kept_wish)
    if deal is not None:
        return ("missed", deal)
    if answer is None:
        return ("right", None)
    return ("wrong", bar(web, kept_purse, kept_wish))


def short_by(web, purse, ware, broker):
    """How much less of a ware than the brim the deal of a broker brings."""
    check_purse(web, purse)
    check_ware(web, ware)
    kept_purse = tuple(purse)
    answer = broker(web, purse, ware)
    if not isinstance(answer, list) or deal_fault(web, answer) is not None:
        raise BadBroker()
    has = played(web, kept_purse, answer)[1]
    if any([amount[0] < 0 for amount in has]):
        raise BadBroker()
    return lessened(brim(web, kept_purse, ware), has[ware])
