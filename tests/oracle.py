"""What the document says, reckoned another way: with Python's fractions, by determinants, by trying all."""

from fractions import Fraction
from itertools import combinations, permutations

from tests.samples import pair, worth


def stay(web, purse, wish):
    """What may stay of each ware."""
    left = [worth(purse[ware]) - worth(wish[ware]) for ware in range(web.wares)]
    for one, other, held, other_held, root in web.stalls:
        left[one] += worth(held)
        left[other] += worth(other_held)
    return left


def matrix(web, purse, wish):
    """The table: slants in the diagonal, the roots beside it with a minus."""
    rows = [[Fraction(0)] * web.wares for _ in range(web.wares)]
    for ware, left in enumerate(stay(web, purse, wish)):
        rows[ware][ware] = left
    for one, other, held, other_held, root in web.stalls:
        rows[one][other] -= worth(root)
        rows[other][one] -= worth(root)
    return rows


def determinant(rows, wares):
    """The determinant of the part of the table with these wares, by its first row."""
    def below(row, columns):
        if not columns:
            return Fraction(1)
        total = Fraction(0)
        for at, column in enumerate(columns):
            entry = rows[wares[row]][column]
            if entry:
                rest = columns[:at] + columns[at + 1:]
                total += (-1) ** at * entry * below(row + 1, rest)
        return total
    return below(0, tuple(wares))


def parts(wares):
    """All parts of some wares, the empty one too."""
    wares = list(wares)
    return [part for many in range(len(wares) + 1) for part in combinations(wares, many)]


def can_all_be_struck(rows):
    """Whether no part of the table has a determinant below 0."""
    return all(determinant(rows, part) >= 0 for part in parts(range(len(rows))))


def more_needed(rows, ware):
    """The least number, also below 0, that the slant can be raised by; None if none does."""
    least = None
    for part in parts(other for other in range(len(rows)) if other != ware):
        alone, whole = determinant(rows, part), determinant(rows, part + (ware,))
        if alone < 0 or (alone == 0 and whole < 0):
            return None
        if alone > 0 and (least is None or -whole / alone > least):
            least = -whole / alone
    return least


def behind(rows, order):
    """The table behind strikes, or None behind the first wrong sign; all slants on the way."""
    rows = [list(row) for row in rows]
    left = list(range(len(rows)))
    slants = []
    for ware in order:
        left.remove(ware)
        slant = rows[ware][ware]
        slants.append(slant)
        tied = any(rows[ware][other] for other in left)
        if slant < 0 or (slant == 0 and tied):
            return None, slants
        if tied:
            rows = [
                [rows[u][v] - rows[u][ware] * rows[ware][v] / slant for v in range(len(rows))]
                for u in range(len(rows))
            ]
    return rows, slants


def holds(stall, ware):
    return worth(stall[2] if stall[0] == ware else stall[3])


def beyond(stall, ware):
    return stall[1] if stall[0] == ware else stall[0]


def joined(web, indexes):
    """The pieces that some stalls make of the wares, None if they close a ring."""
    groups = [[ware] for ware in range(web.wares)]
    for index in indexes:
        one, other = [
            [group for group in groups if ware in group][0] for ware in web.stalls[index][:2]
        ]
        if one is other:
            return None
        groups = [group for group in groups if group is not one and group is not other]
        groups.append(sorted(one + other))
    return sorted(groups)


def forests(web, many):
    """The ascending tuples of so many stalls without rings, each with the pieces that it makes."""
    found = []
    for indexes in combinations(range(len(web.stalls)), many):
        groups = joined(web, indexes)
        if groups is not None:
            found.append((indexes, groups))
    return found


def joined_all(web):
    """The pieces of a web."""
    groups = [[ware] for ware in range(web.wares)]
    for one, other in [stall[:2] for stall in web.stalls]:
        touched = [group for group in groups if one in group or other in group]
        groups = [group for group in groups if group not in touched]
        groups.append(sorted(ware for group in touched for ware in group))
    return sorted(groups)


def is_ring(web, thing):
    """Whether a tuple of right pairs is a ring: each stall once, each way ending where the next begins."""
    if not thing or len({index for index, _ in thing}) < len(thing):
        return False
    return all(
        beyond(web.stalls[index], ware) == thing[(at + 1) % len(thing)][1]
        for at, (index, ware) in enumerate(thing)
    )


def quotient(web, ring):
    """What a ring's stalls hold of the wares it goes from, over what they hold of those it goes to."""
    product = Fraction(1)
    for index, ware in ring:
        stall = web.stalls[index]
        product *= holds(stall, ware) / holds(stall, beyond(stall, ware))
    return product


def tellings(web, ring):
    """All ways to tell a ring."""
    back = tuple((index, beyond(web.stalls[index], ware)) for index, ware in reversed(ring))
    return [way[at:] + way[:at] for way in (ring, back) for at in range(len(ring))]


def rings(web):
    """All rings that come by no ware twice, by trying all rows of stalls."""
    found = set()
    for many in range(2, len(web.stalls) + 1):
        for indexes in permutations(range(len(web.stalls)), many):
            for ware in web.stalls[indexes[0]][:2]:
                ring = walked(web, indexes, ware)
                if ring and is_ring(web, ring) and len({at for _, at in ring}) == many:
                    found.add(min(tellings(web, ring)))
    return sorted(found)


def walked(web, indexes, ware):
    """The pairs of a walk from a ware along stalls, None if there is none."""
    steps = []
    for index in indexes:
        if ware not in web.stalls[index][:2]:
            return None
        steps.append((index, ware))
        ware = beyond(web.stalls[index], ware)
    return tuple(steps)


def fit_numbers(web):
    """The numbers with which a web fits, by passing them on along stalls; None if it does not."""
    numbers = {}
    for first in range(web.wares):
        if first not in numbers:
            numbers[first] = Fraction(1)
        for _ in web.stalls:
            for stall in web.stalls:
                one, other, held, _, root = stall
                if one in numbers and other not in numbers:
                    numbers[other] = numbers[one] * worth(held) / worth(root)
                if other in numbers and one not in numbers:
                    numbers[one] = numbers[other] * worth(root) / worth(held)
    for one, other, held, _, root in web.stalls:
        if worth(held) * numbers[one] != worth(root) * numbers[other]:
            return None
    return [numbers[ware] for ware in range(web.wares)]


def ties(web):
    """The ties of a web that fits."""
    numbers = fit_numbers(web)
    return [worth(stall[4]) * numbers[stall[0]] * numbers[stall[1]] for stall in web.stalls]


def product_of(numbers):
    product = Fraction(1)
    for number in numbers:
        product *= number
    return product


def left(web, told):
    """The left table of told wares, as this package writes it."""
    nothing = [(0, 1)] * web.wares
    rest = [ware for ware in range(web.wares) if ware not in told]
    rows = behind(matrix(web, nothing, nothing), rest[::-1])[0]
    between = [[pair(-rows[one][other] if one != other else 0) for other in told] for one in told]
    return (tuple(pair(rows[ware][ware]) for ware in told), tuple(tuple(row) for row in between))
