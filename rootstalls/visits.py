"""A visit: one customer who makes move by move, and can go back."""

from rootstalls.brims import brim
from rootstalls.deals import (
    check_purse, check_wish, deal_fault, is_move, left_with, stalls_behind,
)
from rootstalls.errors import BadDeal, BadMove, NothingDone
from rootstalls.striking import is_met
from rootstalls.webs import Web
from rootstalls.wishes import deal_by, scales


class Visit:
    """One customer at a web.

    It keeps the stalls as they were at first and behind each move, none of which ever change. What
    customer and stalls have together stays, and so do the roots: so what can be met and had from now
    on is what could be at first.
    """

    def __init__(self, web, purse):
        check_purse(web, purse)
        self._web = web
        self._purse = tuple(purse)
        self._rows = (web.stalls,)

    def _make(self, move):
        self._rows = self._rows + (stalls_behind(self._rows[-1], move),)

    def put(self, index, ware, amount):
        """Makes a move."""
        move = (index, ware, amount)
        # Which moves there are never changes: any amount can be put into a stall.
        if not is_move(self._web, move):
            raise BadMove()
        self._make(move)

    def play(self, deal):
        """Makes all moves of a deal."""
        fault = deal_fault(self._web, deal)
        if fault is not None:
            raise BadDeal(fault)
        for move in deal:
            self._make(move)

    def now(self):
        """The web as it is."""
        return Web(self._web.wares, self._rows[-1])

    def has(self):
        """What the customer has of each ware, below 0 where they owe."""
        return left_with(self._web, self._purse, self.now())

    def can(self, wish):
        """Whether some deal from now on meets the wish."""
        check_wish(self._web, wish)
        return is_met(self._web, self._purse, wish)

    def most(self, ware):
        """The most of a ware that some deal from now on leaves, nothing being owed then."""
        return brim(self._web, self._purse, ware)

    def finish(self, wish):
        """Makes moves that meet the wish, and tells them; None, and nothing is done, if none do."""
        found = scales(self._web, self._purse, wish)
        if found is None:
            return None
        moves = deal_by(self.now(), found)
        for move in moves:
            self._make(move)
        return moves

    def back(self):
        """Takes back the last move."""
        if self.depth() == 0:
            raise NothingDone()
        self._rows = self._rows[:-1]

    def depth(self):
        """How many moves can be taken back."""
        return len(self._rows) - 1

    def copy(self):
        """Another Visit that goes on apart and can go back likewise."""
        twin = Visit(self._web, self._purse)
        twin._rows = self._rows
        return twin

    def trying(self, deed):
        """What a function returns that is called with this; behind it all is as it was."""
        rows = self._rows
        try:
            return deed(self)
        finally:
            self._rows = rows
