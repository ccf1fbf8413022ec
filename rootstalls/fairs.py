"""A fair: a web that changes, and can go back."""

from rootstalls.brims import brim
from rootstalls.deals import (
    check_purse, check_some, check_wish, is_index, led, played, with_stall,
)
from rootstalls.errors import BadIndex, BadStall, NothingDone
from rootstalls.reckoning import multiplied
from rootstalls.striking import is_met
from rootstalls.told import without
from rootstalls.webs import MOST_STALLS, Web


class Fair:
    """A web that changes; it keeps all webs from the first one on, none of which ever changes."""

    def __init__(self, web):
        self._webs = (web,)

    def _change(self, web):
        self._webs = self._webs + (web,)

    def put_up(self, stall):
        """Puts up a stall more behind the others."""
        web = self.now()
        if len(web.stalls) >= MOST_STALLS:
            raise BadStall(MOST_STALLS)
        # Of what is no stall the web itself tells the place.
        self._change(Web(web.wares, web.stalls + (stall,)))

    def strike(self, index):
        """Takes a stall away."""
        self._change(without(self.now(), index))

    def fill(self, index, factor):
        """Makes what a stall holds and its root so many times as much."""
        web = self.now()
        if not is_index(web, index):
            raise BadIndex()
        check_some(factor)
        stall = web.stalls[index]
        filled = stall[:2] + tuple([multiplied(amount, factor) for amount in stall[2:]])
        self._change(with_stall(web, index, filled))

    def lead(self, index, amount):
        """Leads a stall to hold some amount of its first ware."""
        self._change(led(self.now(), index, amount))

    def now(self):
        """The web as it is."""
        return self._webs[-1]

    def meets(self, purse, wish):
        """Whether some deal meets the wish."""
        web = self.now()
        check_purse(web, purse)
        check_wish(web, wish)
        return is_met(web, purse, wish)

    def most(self, purse, ware):
        """The most of a ware that some deal brings."""
        return brim(self.now(), purse, ware)

    def deal(self, purse, moves):
        """What a customer has who plays these moves, which leave the web so."""
        web, has = played(self.now(), purse, moves)
        self._change(web)
        return has

    def back(self):
        """Takes back the last change."""
        if self.depth() == 0:
            raise NothingDone()
        self._webs = self._webs[:-1]

    def depth(self):
        """How many changes can be taken back."""
        return len(self._webs) - 1

    def copy(self):
        """Another Fair that goes on apart and can go back likewise."""
        twin = Fair(self.now())
        twin._webs = self._webs
        return twin

    def trying(self, deed):
        """What a function returns that is called with this; behind it all is as it was."""
        webs = self._webs
        try:
            return deed(self)
        finally:
            self._webs = webs
