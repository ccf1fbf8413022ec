"""Fractions: made of integers, and reckoned with."""

from rootstalls.errors import BadFraction, BadNumber
from rootstalls.reckoning import (
    added, divided, is_fraction, is_integer, lessened, lies_below, lowest, multiplied,
)


def fraction(top, bottom):
    """The fraction top divided by bottom."""
    if not is_integer(top) or not is_integer(bottom) or bottom == 0:
        raise BadNumber()
    return lowest(top, bottom)


def check_both(one, other):
    """Asks for two fractions."""
    if not is_fraction(one):
        raise BadFraction(0)
    if not is_fraction(other):
        raise BadFraction(1)


def plus(one, other):
    """The sum of two fractions."""
    check_both(one, other)
    return added(one, other)


def minus(one, other):
    """One fraction less the other one."""
    check_both(one, other)
    return lessened(one, other)


def times(one, other):
    """The product of two fractions."""
    check_both(one, other)
    return multiplied(one, other)


def over(one, other):
    """One fraction divided by the other one."""
    check_both(one, other)
    if other[0] == 0:
        raise BadFraction(1)
    return divided(one, other)


def is_below(one, other):
    """Whether the one is below the other one."""
    check_both(one, other)
    return lies_below(one, other)
