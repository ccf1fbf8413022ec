"""Webs, purses and wrong things that the tests share, and the checks on calls."""

import copy
import random
import unittest
from fractions import Fraction

from rootstalls.desks import Desk
from rootstalls.errors import BadWare, StallError
from rootstalls.fairs import Fair
from rootstalls.strikings import Striking
from rootstalls.visits import Visit
from rootstalls.webs import Web


def pair(number):
    """A number as this package writes it."""
    number = Fraction(number)
    return (number.numerator, number.denominator)


def worth(one):
    """A fraction of this package as Python's own."""
    return Fraction(one[0], one[1])


ZERO = (0, 1)
ONE = (1, 1)
EVEN = Web(3, [(0, 1, ONE, ONE, ONE), (1, 2, ONE, ONE, ONE), (0, 2, ONE, ONE, ONE)])
ODD = Web(3, [(0, 1, ONE, ONE, ONE), (1, 2, ONE, ONE, ONE), (0, 2, (2, 1), (1, 2), ONE)])
NONE = (ZERO, ZERO, ZERO)
LONE = Web(1, [])
BARE = Web(4, ())
# Two pieces of two and three wares, and a ware without stalls; the pair has two alike stalls.
SPLIT = Web(6, [
    (4, 1, (1, 2), (8, 1), (2, 1)), (4, 1, (1, 2), (8, 1), (2, 1)),
    (5, 0, (3, 1), (3, 1), (3, 1)), (0, 2, (1, 3), (1, 12), (1, 6)),
])
FULL = Web(8, [
    (at % 8, (at + 1 + at // 8) % 8, pair(Fraction(at + 1, 2)), pair(Fraction(2, at + 1)), ONE)
    for at in range(16)
])
LARGE = 10 ** 299 + 1
LARGE_OTHER = 10 ** 299 + 3


def pairs(numbers):
    return tuple(pair(number) for number in numbers)


def worths(ones):
    return [worth(one) for one in ones]


def nested(kind, depth):
    """A thing with nothing but its kind in it, this deep."""
    thing = kind()
    for _ in range(depth):
        thing = {0: thing} if kind is dict else kind([thing])
    return thing


def odd_things():
    """Things that are no number, no fraction and no row of such, of all kinds that are allowed."""
    return [
        None, True, False, Ellipsis, NotImplemented, "", "0", "12", "text", b"", b"12",
        bytearray(b"1"), memoryview(b"1"), range(0), range(3), iter([1]), (x for x in [1]),
        slice(1), int, list, len, print, lambda: 1, object(), property(), BadWare(), StallError,
        Web, EVEN, LONE, Striking(EVEN, NONE, NONE), Fair(EVEN), Visit(EVEN, NONE), Desk(),
        {}, {0: ONE, 1: ONE}, [None], (None,), [[]],
        ([],), ((),), ("01", "23"), (True, 1), (1, True), (1, 0), (2, 4), (1, -1), (0, 2), (1,),
        (1, 2, 3), ("1", "2"), [1, 1], ((1, 1), 1), (1, (1, 1)), ((1, 1), (1, 1), (1, 1), 7),
        nested(list, 40), nested(tuple, 40), nested(dict, 40), [0] * 99999, (0,) * 99999,
    ]


def wrong_integers():
    """Things that are no integer."""
    return odd_things() + [ONE, (0, 1)]


def wrong_wares(wares):
    """Things that are no ware of a web of so many."""
    return wrong_integers() + [-1, wares, wares + 1, 10 ** 11, -10 ** 400]


def wrong_fractions():
    """Things that are no fraction."""
    return odd_things() + [0, 1, -1, 10 ** 400, (1, 10 ** 299, 1), (2 * LARGE, 4), [0, 1]]


def wrong_amounts():
    """Things that are no amount."""
    return wrong_fractions() + [(-1, 1), (-LARGE, 2)]


def wrong_somes():
    """Things that are no amount above 0."""
    return wrong_amounts() + [ZERO]


def wrong_rows(wares):
    """Things that are no row with an amount for each of so many wares, wares from 2 to 8."""
    least = [ONE] * (wares - 1)
    rows = [least, least + [ONE, ONE], tuple(least), tuple(least + [ONE, ONE])]
    for wrong in wrong_amounts():
        rows.append(least + [wrong])
        rows.append((wrong,) + tuple(least))
    return odd_things() + [0, 3, ONE, {at: ONE for at in range(wares)}, ["0/1"] * wares] + rows


def wrong_tuples(wares):
    """Things that are no tuple with an amount for each of so many wares."""
    return wrong_rows(wares) + [[ONE] * wares]


def wrong_orders():
    """Things that are no order of three."""
    wrong = odd_things() + [
        0, [0, 1, 2], (0, 1), (0, 1, 2, 0), (0, 1, 1), (0, 1, 3), (1, 2, 3), (-1, 0, 1),
        (0, 1, 2, 3), (False, True, 2), (0, True, 2), ("0", "1", "2"), (0, 1, None), "012",
        {0: 0, 1: 1, 2: 2}, range(3), (0, 1, 10 ** 400), ((0,), (1,), (2,)),
    ]
    return wrong + [(0, 1, one) for one in wrong_integers()]


def wrong_somes_in_tuples(wares):
    """Things that are no tuple with some amount for each of so many wares."""
    least = (ONE,) * (wares - 1)
    return wrong_tuples(wares) + [least + (wrong,) for wrong in wrong_somes()] + [(ZERO,) * wares]


def wrong_strings():
    """Things that are no string."""
    return [thing for thing in odd_things() if not isinstance(thing, str)] + [0, 12, ONE, [""]]


def wrong_told():
    """Things that are no told wares of a web of three wares."""
    wrong = [thing for thing in odd_things() if thing not in [(1,), (0, 2)]] + [
        0, 2, [0], [0, 1], (), (1, 0), (0, 0), (0, 2, 1), (0, 1, 1, 2), (3,), (0, 3), (-1, 0),
        (-3, -2), (0, 1, 2, 3), (False,), (0, True), (True, 2), (0, 10 ** 400), "012", range(2),
        {0: 0, 1: 1}, (0,) * 3,
    ]
    return wrong + [(0, one) for one in wrong_integers()] + [(one, 2) for one in wrong_integers()]


def is_long(thing):
    return isinstance(thing, (list, tuple)) and len(thing) > 1000


def kept(thing):
    """A copy to compare with later, or the thing itself if it can't be copied."""
    if is_long(thing):
        return thing[:]
    try:
        return copy.deepcopy(thing)
    except TypeError:
        return thing


class Case(unittest.TestCase):
    """Tests that also ask that calls leave alone what they are passed."""

    def refused(self, error, fields, call, *arguments):
        """The call raises just this error with these fields and changes no argument."""
        before = [kept(argument) for argument in arguments]
        label = "long" if any(map(is_long, arguments)) else repr(arguments)[:300]
        with self.subTest(call=call, arguments=label):
            with self.assertRaises(error) as caught:
                call(*arguments)
            self.assertIs(error, caught.exception.__class__)
            self.assertEqual(fields, vars(caught.exception))
            self.unchanged(before, arguments)

    def unchanged(self, before, behind):
        for one, other in zip(before, behind):
            if isinstance(one, (list, tuple, dict, Web)):
                self.assertEqual(strip(one), strip(other))

    def told(self, wanted, call, *arguments):
        """The call returns just this, twice, and changes no argument."""
        before = [kept(argument) for argument in arguments]
        first = call(*arguments)
        self.assertEqual(wanted, first)
        self.assertIs(wanted.__class__, first.__class__)
        if isinstance(first, list):
            first.append("changed")
        again = call(*arguments)
        self.assertEqual(wanted, again)
        self.unchanged(before, arguments)


def strip(thing):
    """A thing with each object in it that has no equality of its own told by its class alone."""
    if is_long(thing):
        return thing
    if isinstance(thing, list):
        return [strip(one) for one in thing]
    if isinstance(thing, tuple):
        return tuple(strip(one) for one in thing)
    if isinstance(thing, dict):
        return {key: strip(one) for key, one in thing.items()}
    if thing is None or isinstance(thing, (bool, int, str, bytes, range, Web)):
        return (thing.__class__, thing)
    return thing.__class__


def some_number(chance):
    return Fraction(chance.randint(1, 6), chance.randint(1, 4))


def random_web(chance, wares, stalls):
    """A web of small numbers."""
    rows = []
    for _ in range(stalls if wares > 1 else 0):
        one, other = chance.sample(range(wares), 2)
        root, held = some_number(chance), some_number(chance)
        rows.append((one, other, pair(held), pair(root * root / held), pair(root)))
    return Web(wares, rows)


def fitting_web(chance, wares, stalls):
    """A web in which nothing can be had for nothing: its table has slants of 0 behind strikes."""
    scale = [some_number(chance) for _ in range(wares)]
    rows = []
    for _ in range(stalls if wares > 1 else 0):
        one, other = chance.sample(range(wares), 2)
        root = some_number(chance)
        held = root * scale[other] / scale[one]
        rows.append((one, other, pair(held), pair(root * root / held), pair(root)))
    return Web(wares, rows)


def spoilt_web(chance, web):
    """The web, one of its stalls no longer holding what it held."""
    at = chance.randrange(len(web.stalls))
    one, other, held, other_held, root = web.stalls[at]
    stall = (one, other, pair(worth(held) * 2), pair(worth(other_held) / 2), root)
    return Web(web.wares, web.stalls[:at] + (stall,) + web.stalls[at + 1:])


def webs(seed, number, most_wares=5, most_stalls=16):
    """Webs that fit, that fit but for one stall, and that fit nowhere, of all sizes."""
    chance = random.Random(seed)
    for at in range(number):
        wares = chance.randint(1, most_wares)
        stalls = chance.randint(0, min(2 * wares, most_stalls))
        web = [fitting_web, random_web][at % 2](chance, wares, stalls)
        if at % 4 == 2 and web.stalls:
            web = spoilt_web(chance, web)
        yield web


def random_row(chance, wares):
    """A purse or a wish, often with amounts of 0."""
    return [pair(some_number(chance) * chance.choice([0, 0, 1])) for _ in range(wares)]


def cases(seed, number, most_wares=5):
    """Webs with purses and wishes, with wishes that are met and wishes that are not."""
    chance = random.Random(seed)
    for _ in range(number):
        wares = chance.randint(1, most_wares)
        make = chance.choice([random_web, fitting_web])
        web = make(chance, wares, chance.randint(0, 2 * wares))
        yield web, random_row(chance, wares), random_row(chance, wares)
