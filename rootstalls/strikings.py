"""A table from which wares are struck one by one, and which can go back."""

from rootstalls.deals import check_purse, check_wish
from rootstalls.errors import BadAmount, BadWare, NothingDone, WrongSign
from rootstalls.reckoning import ZERO, is_amount, is_integer
from rootstalls.striking import strike_row, table_of
from rootstalls.webs import check_ware


class Striking:
    """A table of a web, a purse and a wish, some wares of which have been struck.

    It keeps all its states from the first one on, none of which ever changes: triples of the
    table before any strike, the wares struck in their order, and the table behind them.
    """

    def __init__(self, web, purse, wish):
        check_purse(web, purse)
        check_wish(web, wish)
        self._web = web
        self._purse = tuple(purse)
        self._wish = tuple(wish)
        table = table_of(web, purse, wish)
        self._states = ((table, (), table),)

    def _table(self):
        return self._states[-1][2]

    def _check_left(self, ware):
        if not is_integer(ware) or ware not in self._table().slants:
            raise BadWare()

    def strike(self, ware):
        """Strikes a ware that is left."""
        self._check_left(ware)
        whole, gone, table = self._states[-1]
        if table.wrong_sign(ware):
            raise WrongSign(ware)
        self._states = self._states + ((whole, gone + (ware,), table.behind(ware)),)

    def left(self):
        """The ascending tuple of the wares that are left."""
        return tuple(sorted(self._table().slants))

    def slant(self, ware):
        """The slant of a ware that is left."""
        self._check_left(ware)
        return self._table().slants[ware]

    def root(self, one, other):
        """The root between two unlike wares that are left."""
        self._check_left(one)
        self._check_left(other)
        if one == other:
            raise BadWare()
        return self._table().ties[one].get(other, ZERO)

    def more(self, ware, amount):
        """An amount more of a ware comes into the purse, as if it had been there at first."""
        check_ware(self._web, ware)
        if not is_amount(amount):
            raise BadAmount()
        whole, gone, _ = self._states[-1]
        whole = whole.with_more(ware, amount)
        # More in the purse lowers no slant, so what has been struck can be struck again.
        table = strike_row(whole, gone)[1]
        self._states = self._states + ((whole, gone, table),)

    def could(self, ware):
        """Whether a ware that is left could be struck."""
        self._check_left(ware)
        return not self._table().wrong_sign(ware)

    def back(self):
        """Takes back the last strike or more."""
        if self.depth() == 0:
            raise NothingDone()
        self._states = self._states[:-1]

    def depth(self):
        """How many strikes and mores can be taken back."""
        return len(self._states) - 1

    def copy(self):
        """Another Striking that goes on apart and can go back likewise."""
        twin = Striking(self._web, self._purse, self._wish)
        twin._states = self._states
        return twin

    def trying(self, deed):
        """What a function returns that is called with this; behind it all is as it was."""
        states = self._states
        try:
            return deed(self)
        finally:
            self._states = states
