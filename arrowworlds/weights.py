"""Weightings of worlds, their sizes, and the rows of arrows in worlds without a way back."""

from math import gcd

from arrowworlds.alikes import same_parts
from arrowworlds.errors import NotOneWay
from arrowworlds.worlds import between, turned


def ratio_of(a, b):
    """The ratio of a to b, which is not 0, in lowest terms."""
    common = gcd(a, b) if b > 0 else -gcd(a, b)
    return (a // common, b // common)


def sum_of_ratios(ratios):
    """The sum of the ratios."""
    total = (0, 1)
    for a, b in ratios:
        total = ratio_of(total[0] * b + a * total[1], total[1] * b)
    return total


def lowered(row):
    """The row of integers without a common divisor of all its entries."""
    common = 0
    for entry in row:
        common = gcd(common, entry)
    return [entry // common for entry in row] if common > 1 else row


def cleared(row, pivot, k):
    """The row with a multiple of the pivot row taken from it, so that its entry k is 0."""
    return lowered([a * pivot[k] - b * row[k] for a, b in zip(row, pivot)])


def weight_rows(world):
    """For each thing the numbers of arrows from it to each thing, and behind them 1."""
    things = range(world[0])
    return [[len(between(world, x, y)) for y in things] + [1] for x in things]


def solved_rows(rows, many):
    """The rows, cleared so that each of some of the first columns has an entry in just one of them.

    It returns for each such column its row, as a dict, and the rows that are left.
    """
    told = {}
    left = list(rows)
    for k in range(many):
        pivots = [row for row in left if row[k] != 0]
        if pivots:
            pivot = pivots[0]
            left = [cleared(row, pivot, k) for row in left if row != pivot]
            told = {j: cleared(told[j], pivot, k) for j in told}
            told[k] = pivot
    return (told, left)


def weighting(world):
    """A weighting of the world, or None if there is none."""
    told, left = solved_rows(weight_rows(world), world[0])
    if any([row[-1] != 0 for row in left]):
        return None
    # The things without a row of their own have no weight.
    return tuple([ratio_of(told[x][-1], told[x][x]) if x in told else (0, 1) for x in range(world[0])])


def size_of(world):
    """The sum of a weighting if the world and the turned world have one, and None otherwise."""
    weights = weighting(world)
    if weights is None or weighting(turned(world)) is None:
        return None
    return sum_of_ratios(weights)


def check_one_way(world):
    """Raise NotOneWay if an arrow that is not still leads back to its thing or two things are the same."""
    if any([x == y for x, y in world[1][world[0]:]]):
        raise NotOneWay("an arrow leads from a thing to itself")
    if len(same_parts(world)) < world[0]:
        raise NotOneWay("two things are the same")


def chain_counts(world):
    """For each k the number of rows of k arrows that are not still, as long as there are any; raises NotOneWay."""
    check_one_way(world)
    counts = []
    # For each thing the number of the rows that end there.
    rows = [1 for _ in range(world[0])]
    while sum(rows) > 0:
        counts.append(sum(rows))
        more = [0 for _ in rows]
        for x, y in world[1][world[0]:]:
            more[y] += rows[x]
        rows = more
    return tuple(counts)
