"""The errors of the package, one class for each kind of failure."""


class StallError(ValueError):
    """What all errors of the package are."""


class BadNumber(StallError):
    """No two integers, or a bottom of 0."""


class BadFraction(StallError):
    """The argument at this place is no fraction, or none of the kind that is asked."""

    def __init__(self, place):
        self.place = place


class BadWares(StallError):
    """No number of wares that a web can have."""


class BadStall(StallError):
    """The first thing that is no stall; -1 for what is no row of them."""

    def __init__(self, index):
        self.index = index


class BadWare(StallError):
    """No ware, or none that is asked."""


class BadMove(StallError):
    """No move of this web."""


class BadIndex(StallError):
    """No index of a stall."""


class BadAmount(StallError):
    """No amount, or none that is asked."""


class BadPurse(StallError):
    """No row with an amount for each ware to begin with."""


class BadDeal(StallError):
    """The first thing that is no move; -1 for what is no row of them."""

    def __init__(self, index):
        self.index = index


class BadWish(StallError):
    """No row with an amount for each ware to end with."""


class BadScales(StallError):
    """No tuple with some amount for each ware."""


class BadOrder(StallError):
    """No tuple with each of what is to be ordered once."""


class BadTold(StallError):
    """No told wares."""


class NotFit(StallError):
    """The web does not fit."""


class NotTied(StallError):
    """The web has more than one piece."""


class BadSlip(StallError):
    """The first thing that is no slip; -1 for what is no row of them."""

    def __init__(self, index):
        self.index = index


class BadLot(StallError):
    """No lot of slips."""


class BadCustomer(StallError):
    """The first thing that is no customer; -1 for what is no row of them."""

    def __init__(self, index):
        self.index = index


class BadRates(StallError):
    """No rates."""


class BadRoute(StallError):
    """No route, or none that is asked."""


class BadText(StallError):
    """The first line that is not written so; -1 for what is no string."""

    def __init__(self, index):
        self.index = index


class TooMany(StallError):
    """There would be more than this limit."""

    def __init__(self, limit):
        self.limit = limit


class BadBroker(StallError):
    """The broker returned no deal that owes nothing at the end."""


class NothingDone(StallError):
    """Nothing is left to be taken back."""


class BadBar(StallError):
    """No tuple with an amount for each ware."""


class NotApart(StallError):
    """Two stalls of the ware lead to one ware."""


class BadAnswer(StallError):
    """The answer is no amount."""


class BadDrags(StallError):
    """No drags."""


class NoLine(StallError):
    """No line that the desk knows."""


class NoName(StallError):
    """There is no web of this name."""

    def __init__(self, name):
        self.name = name


class OtherStalls(StallError):
    """The stalls of both webs do not stand alike, one by one."""


class WrongSign(StallError):
    """The slant of this ware has a wrong sign."""

    def __init__(self, ware):
        self.ware = ware


class BadRing(StallError):
    """No three stalls between each two of three wares."""


class OtherWares(StallError):
    """The webs have not as many wares."""
