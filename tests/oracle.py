"""What the document says of tables, reckoned another way: by determinants of Python's fractions."""

from fractions import Fraction
from itertools import combinations

from tests.samples import worth


def stay(web, purse, wish):
    """What may stay of each ware."""
    left = [worth(purse[ware]) - worth(wish[ware]) for ware in range(web.wares)]
    for one, other, held, other_held, root in web.stalls:
        left[one] += worth(held)
        left[other] += worth(other_held)
    return left


def matrix(web, purse, wish):
    """The table: slants in the diagonal, the roots beside it with a minus."""
    rows = [[Fraction(0)] * web.wares for _ in range(web.wares)]
    for ware, left in enumerate(stay(web, purse, wish)):
        rows[ware][ware] = left
    for one, other, held, other_held, root in web.stalls:
        rows[one][other] -= worth(root)
        rows[other][one] -= worth(root)
    return rows


def determinant(rows, wares):
    """The determinant of the part of the table with these wares, by its first row."""
    def below(row, columns):
        if not columns:
            return Fraction(1)
        total = Fraction(0)
        for at, column in enumerate(columns):
            entry = rows[wares[row]][column]
            if entry:
                rest = columns[:at] + columns[at + 1:]
                total += (-1) ** at * entry * below(row + 1, rest)
        return total
    return below(0, tuple(wares))


def parts(wares):
    """All parts of some wares, the empty one too."""
    wares = list(wares)
    return [part for many in range(len(wares) + 1) for part in combinations(wares, many)]


def can_all_be_struck(rows):
    """Whether no part of the table has a determinant below 0."""
    return all(determinant(rows, part) >= 0 for part in parts(range(len(rows))))


def more_needed(rows, ware):
    """The least number, also below 0, that the slant can be raised by; None if none does."""
    least = None
    for part in parts(other for other in range(len(rows)) if other != ware):
        alone, whole = determinant(rows, part), determinant(rows, part + (ware,))
        if alone < 0 or (alone == 0 and whole < 0):
            return None
        if alone > 0 and (least is None or -whole / alone > least):
            least = -whole / alone
    return least


def behind(rows, order):
    """The table behind strikes, or None behind the first wrong sign; all slants on the way."""
    rows = [list(row) for row in rows]
    left = list(range(len(rows)))
    slants = []
    for ware in order:
        left.remove(ware)
        slant = rows[ware][ware]
        slants.append(slant)
        tied = any(rows[ware][other] for other in left)
        if slant < 0 or (slant == 0 and tied):
            return None, slants
        if tied:
            rows = [
                [rows[u][v] - rows[u][ware] * rows[ware][v] / slant for v in range(len(rows))]
                for u in range(len(rows))
            ]
    return rows, slants
