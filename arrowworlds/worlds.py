"""Worlds: what is one, and what stands in it."""

from arrowworlds.errors import NotFollowing, NotWorld
from arrowworlds.kinds import is_number, is_number_row, is_row

MOST_THINGS = 8
MOST_ARROWS = 40


def has_form(value):
    """Whether the value has numbers, ends and table of the right lengths and within their ranges."""
    if not is_row(value, 3):
        return False
    n, ends, table = value
    if not is_number(n, 0, MOST_THINGS) or type(ends) is not tuple:
        return False
    m = len(ends)
    if not n <= m <= MOST_ARROWS or not is_row(table, m):
        return False
    if not all([is_number_row(pair, 2, 0, n - 1) for pair in ends]):
        return False
    return all([is_number_row(row, m, -1, m - 1) for row in table])


def still_breach(world):
    """The least thing whose still arrow does not lead from it to it, or None."""
    for k in range(world[0]):
        if world[1][k] != (k, k):
            return k
    return None


def does_fit(ends, f, g, entry):
    """Whether the entry for f and then g is there exactly if g follows f, with the ends of both."""
    if ends[f][1] != ends[g][0]:
        return entry == -1
    return entry >= 0 and ends[entry] == (ends[f][0], ends[g][1])


def fit_breach(world):
    """The place of the first entry of the table that does not fit, or None."""
    ends, table = world[1], world[2]
    m = len(ends)
    for f in range(m):
        for g in range(m):
            if not does_fit(ends, f, g, table[f][g]):
                return m * f + g
    return None


def unit_breach(world):
    """The least arrow that a still arrow changes, or None."""
    ends, table = world[1], world[2]
    for f in range(len(ends)):
        x, y = ends[f]
        if table[x][f] != f or table[f][y] != f:
            return f
    return None


def is_ordered_at(table, f):
    """Whether (f.g).h is f.(g.h) for all g and h that follow."""
    for g, first in enumerate(table[f]):
        if first >= 0:
            for h, second in enumerate(table[g]):
                if second >= 0 and table[first][h] != table[f][second]:
                    return False
    return True


def order_breach(world):
    """The least arrow f for which (f.g).h is not always f.(g.h), or None."""
    for f in range(len(world[1])):
        if not is_ordered_at(world[2], f):
            return f
    return None


def world_breach(value):
    """None for a world, and otherwise the first broken rule of [3] and its place."""
    if not has_form(value):
        return ("form", -1)
    place = still_breach(value)
    if place is not None:
        return ("still", place)
    place = fit_breach(value)
    if place is not None:
        return ("fit", place)
    place = unit_breach(value)
    if place is not None:
        return ("unit", place)
    place = order_breach(value)
    if place is not None:
        return ("order", place)
    return None


def check_world(value):
    """The value itself if it is a world; otherwise raises NotWorld."""
    breach = world_breach(value)
    if breach is not None:
        raise NotWorld(breach[0], breach[1])
    return value


def between(world, x, y):
    """The arrows that lead from x to y, ascending."""
    return tuple([f for f, pair in enumerate(world[1]) if pair == (x, y)])


def followed(world, f, g):
    """The arrow f and then g; raises NotFollowing if g does not follow f."""
    both = world[2][f][g]
    if both == -1:
        raise NotFollowing("the second arrow does not lead from where the first one leads to")
    return both


def turned(world):
    """The world with the same things and arrows, all arrows led the other way."""
    n, ends, table = world
    arrows = range(len(ends))
    back = tuple([(y, x) for x, y in ends])
    return (n, back, tuple([tuple([table[g][f] for g in arrows]) for f in arrows]))
