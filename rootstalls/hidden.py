"""Webs told back from what can be asked of them: from brims, and from drags."""

from itertools import combinations

from rootstalls.drags import check_tied, drag
from rootstalls.errors import BadAnswer, BadDrags, BadWares
from rootstalls.nothing import check_fit
from rootstalls.reckoning import (
    ONE, TWO, ZERO, added, are_amounts, divided, is_amount, is_integer, lessened, multiplied,
    negated, square_root, summed,
)
from rootstalls.striking import Table, all_struck

MOST_HIDDEN = 5
MOST_DRAGS = 6


def cleared(rows, at):
    """The rows behind a step: 1 in this place of this row, 0 there in all others."""
    lead = [divided(number, rows[at][at]) for number in rows[at]]
    return [
        lead if place == at else
        [lessened(number, multiplied(row[at], part)) for number, part in zip(row, lead)]
        for place, row in enumerate(rows)
    ]


def inverse(rows):
    """The inverse of a square of fractions, the same both ways; None if not all its pivots are above 0."""
    size = len(rows)
    wide = [
        list(row) + [ONE if place == other else ZERO for other in range(size)]
        for place, row in enumerate(rows)
    ]
    for at in range(size):
        if wide[at][at][0] <= 0:
            return None
        wide = cleared(wide, at)
    return [row[size:] for row in wide]


def asked(ask, purse, ware):
    """The answer to a question for a brim."""
    answer = ask(tuple(purse), ware)
    if not is_amount(answer):
        raise BadAnswer()
    return answer


def answers_of(wares, ask):
    """All answers, by pairs of wares, the brims by 1 of each being under each ware with itself."""
    every = list(range(wares))
    answers = {(ware, ware): asked(ask, [ONE] * wares, ware) for ware in every}
    for one, other in combinations(every, 2):
        purse = [TWO if ware == other else ONE for ware in every]
        answers[(one, other)] = asked(ask, purse, one)
    return answers


def square_of(wares, answers):
    """The inverse of the table with 1 of each ware in the purse, None if no table gives the answers.

    A brim is 1 divided by the place of its ware in this inverse. One more of another ware takes from
    that place the square of the place of both, divided by the sum of 1 and the place of the other.
    """
    if any([answers[pair] == ZERO for pair in answers]):
        return None
    every = list(range(wares))
    rows = [[divided(ONE, answers[(ware, ware)])] * wares for ware in every]
    for one, other in combinations(every, 2):
        less = lessened(rows[one][one], divided(ONE, answers[(one, other)]))
        square = multiplied(less, added(ONE, rows[other][other]))
        root = square_root(square) if square[0] >= 0 else None
        if root is None:
            return None
        rows[one][other] = rows[other][one] = root
    return rows


def roots_in(rows):
    """The tuple of tuples of the roots of a table, which stand in it with a minus; None if one is below 0."""
    roots = tuple([
        tuple([ZERO if one == other else negated(number) for other, number in enumerate(row)])
        for one, row in enumerate(rows)
    ])
    if any([root[0] < 0 for row in roots for root in row]):
        return None
    return roots


def can_be_struck(slants, roots):
    """Whether a table of slants and roots can be struck without a wrong sign."""
    ties = {
        one: {other: root for other, root in enumerate(row) if root != ZERO}
        for one, row in enumerate(roots)
    }
    return all_struck(Table(dict(enumerate(slants)), ties))


def told_back(wares, ask):
    """The slants and the roots of the table that gives these answers, None if there is none."""
    if not is_integer(wares) or not 1 <= wares <= MOST_HIDDEN:
        raise BadWares()
    rows = square_of(wares, answers_of(wares, ask))
    whole = None if rows is None else inverse(rows)
    if whole is None:
        return None
    slants = tuple([lessened(row[ware], ONE) for ware, row in enumerate(whole)])
    roots = roots_in(whole)
    if roots is None or not can_be_struck(slants, roots):
        return None
    return (slants, roots)


def are_drags(thing):
    """Whether a thing is a square of amounts, 0 just for each ware itself, the same both ways."""
    if not isinstance(thing, tuple) or not 2 <= len(thing) <= MOST_DRAGS:
        return False
    for row in thing:
        if not isinstance(row, tuple) or not are_amounts(row, len(thing)):
            return False
    for one, row in enumerate(thing):
        for other, amount in enumerate(row):
            if amount != thing[other][one] or (amount == ZERO) != (one == other):
                return False
    return True


def roots_of_drags(drags):
    """The roots of the web that fits with 1 for each ware and has these drags, None if there is none."""
    if not are_drags(drags):
        raise BadDrags()
    last = len(drags) - 1
    # With the last ware held fast, the inverse of the table is half the sum of both drags to the last
    # ware, less the drag between them.
    rows = inverse([
        [
            divided(lessened(added(drags[one][last], drags[other][last]), drags[one][other]), TWO)
            for other in range(last)
        ]
        for one in range(last)
    ])
    if rows is None:
        return None
    # Each row of a table that fits so adds up to 0.
    rows = [row + [negated(summed(row))] for row in rows]
    return roots_in(rows + [[row[last] for row in rows] + [ZERO]])


def drags_of(web):
    """The drags between each two wares of a web that fits and has one piece."""
    check_fit(web)
    check_tied(web)
    if not 2 <= web.wares <= MOST_DRAGS:
        raise BadWares()
    wares = list(range(web.wares))
    return tuple([
        tuple([ZERO if one == other else drag(web, one, other) for other in wares]) for one in wares
    ])
