"""Rows of customers: each gives one ware and takes the brim of another one."""

from rootstalls.brims import taken
from rootstalls.deals import row_of, web_behind
from rootstalls.errors import BadCustomer, BadOrder
from rootstalls.reckoning import is_row, is_some, lies_below
from rootstalls.striking import is_order
from rootstalls.webs import is_ware

MOST_CUSTOMERS = 5


def is_customer(web, thing):
    """Whether a thing is a customer of the web."""
    if not isinstance(thing, tuple) or len(thing) != 3:
        return False
    ware, amount, other = thing
    if not is_ware(web, ware) or not is_ware(web, other):
        return False
    return ware != other and is_some(amount)


def check_customers(web, customers):
    """Asks for a row of customers."""
    if not is_row(customers) or len(customers) > MOST_CUSTOMERS:
        raise BadCustomer(-1)
    for index, customer in enumerate(customers):
        if not is_customer(web, customer):
            raise BadCustomer(index)


def turn_of(web, customer):
    """What a customer takes, and the web behind."""
    ware, amount, other = customer
    most, moves = taken(web, row_of(web, [(ware, amount)]), other)
    return (most, web_behind(web, moves))


def served(web, customers, order):
    """What each takes, by the order, one behind another."""
    check_customers(web, customers)
    if not is_order(len(customers), order):
        raise BadOrder()
    amounts = []
    for index in order:
        most, web = turn_of(web, customers[index])
        amounts.append(most)
    return amounts


def all_turns(web, customers, left):
    """The pairs of a customer and what they take, over all orders of those that are left."""
    found = []
    for index in left:
        most, behind = turn_of(web, customers[index])
        found.append((index, most))
        found.extend(all_turns(behind, customers, [other for other in left if other != index]))
    return found


def ends_of(amounts):
    """The least and the greatest of some amounts."""
    least = greatest = amounts[0]
    for amount in amounts:
        if lies_below(amount, least):
            least = amount
        if lies_below(greatest, amount):
            greatest = amount
    return (least, greatest)


def spread(web, customers):
    """For each customer the least and the greatest that they take over all orders."""
    check_customers(web, customers)
    indexes = list(range(len(customers)))
    turns = all_turns(web, customers, indexes)
    return [ends_of([most for index, most in turns if index == one]) for one in indexes]
