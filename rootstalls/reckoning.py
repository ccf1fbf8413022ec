"""Judging numbers and rows, and reckoning with fractions that are known to be right."""

from math import gcd, isqrt

ZERO = (0, 1)
ONE = (1, 1)
TWO = (2, 1)


def is_integer(thing):
    """Whether a thing is an integer and no flag."""
    return isinstance(thing, int) and not isinstance(thing, bool)


def is_row(thing):
    """Whether a thing is a list or a tuple."""
    return isinstance(thing, (list, tuple))


def is_fraction(thing):
    """Whether a thing is a pair in lowest terms with a bottom from 1 on."""
    if not isinstance(thing, tuple) or len(thing) != 2:
        return False
    top, bottom = thing
    if not is_integer(top) or not is_integer(bottom):
        return False
    return bottom >= 1 and gcd(top, bottom) == 1


def is_amount(thing):
    """Whether a thing is a fraction from 0 on."""
    return is_fraction(thing) and thing[0] >= 0


def is_some(thing):
    """Whether a thing is a fraction above 0."""
    return is_fraction(thing) and thing[0] > 0


def are_amounts(things, number):
    """Whether a row holds just so many amounts."""
    return len(things) == number and all([is_amount(thing) for thing in things])


def is_rising(number, thing):
    """Whether a thing is an ascending tuple of integers from 0 on below this number."""
    if not isinstance(thing, tuple) or not all([is_integer(one) for one in thing]):
        return False
    if any([one >= other for one, other in zip(thing, thing[1:])]):
        return False
    return len(thing) == 0 or (thing[0] >= 0 and thing[-1] < number)


def lowest(top, bottom):
    """The fraction of two integers, the bottom not being 0."""
    common = gcd(top, bottom)
    if bottom < 0:
        common = -common
    return (top // common, bottom // common)


def added(one, other):
    """The sum of two fractions."""
    # Common divisors are taken out of the bottoms first: sums of long fractions stay cheap so.
    common = gcd(one[1], other[1])
    part = one[1] // common
    top = one[0] * (other[1] // common) + other[0] * part
    shared = gcd(top, common)
    return (top // shared, part * (other[1] // shared))


def negated(one):
    """A fraction with the other sign."""
    return (-one[0], one[1])


def lessened(one, other):
    """One fraction less the other one."""
    return added(one, negated(other))


def multiplied(one, other):
    """The product of two fractions."""
    left = gcd(one[0], other[1])
    right = gcd(other[0], one[1])
    return ((one[0] // left) * (other[0] // right), (one[1] // right) * (other[1] // left))


def divided(one, other):
    """One fraction divided by the other one, which is not 0."""
    if other[0] < 0:
        return multiplied(one, (-other[1], -other[0]))
    return multiplied(one, (other[1], other[0]))


def squared(one):
    """The square of a fraction."""
    return (one[0] * one[0], one[1] * one[1])


def summed(fractions):
    """The sum of a row of fractions."""
    total = ZERO
    for one in fractions:
        total = added(total, one)
    return total


def lies_below(one, other):
    """Whether one fraction is below the other one."""
    return one[0] * other[1] < other[0] * one[1]


def square_root(amount):
    """The amount whose square is this one, None if there is no such fraction."""
    top = isqrt(amount[0])
    bottom = isqrt(amount[1])
    if top * top != amount[0] or bottom * bottom != amount[1]:
        return None
    return (top, bottom)
