"""A web that fits between two of its wares: its drag, the one stall that does as much, its trees."""

from rootstalls.brims import others_struck, rule
from rootstalls.errors import NotTied
from rootstalls.nothing import check_fit, tie_of
from rootstalls.reckoning import ONE, ZERO, divided, multiplied, squared
from rootstalls.webs import check_two, pieces


def one_stall(web, one, other):
    """The stall that alone does the same between two wares, None for wares of unlike pieces."""
    check_fit(web)
    nothing = [ZERO] * web.wares
    held, other_held, root = rule(web, nothing, nothing, one, other)
    if root == ZERO:
        return None
    return (one, other, held, other_held, root)


def drag(web, one, other):
    """What the way from one ware to the other one adds to 1 divided by a worth, None if there is no way."""
    numbers = check_fit(web)
    stall = one_stall(web, one, other)
    if stall is None:
        return None
    return divided(ONE, tie_of(stall, numbers))


def check_tied(web):
    """Asks for a web of one piece."""
    if len(pieces(web)) > 1:
        raise NotTied()


def product_struck(steps, numbers):
    """The product of the slants that were struck, each times the square of the number of its ware."""
    product = ONE
    for ware, slant, _ in steps:
        product = multiplied(product, multiplied(slant, squared(numbers[ware])))
    return product


def product_of_others(web, numbers, wares):
    """The product when all wares but these are struck, with nothing in the purse."""
    nothing = [ZERO] * web.wares
    return product_struck(others_struck(web, nothing, nothing, wares)[0], numbers)


def trees(web):
    """The sum over all trees of the products of their ties."""
    numbers = check_fit(web)
    check_tied(web)
    return product_of_others(web, numbers, (0,))


def two_trees(web, one, other):
    """The sum over all two-tree forests of two wares of the products of their ties."""
    numbers = check_fit(web)
    check_tied(web)
    check_two(web, one, other)
    return product_of_others(web, numbers, (one, other))
