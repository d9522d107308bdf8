"""Worlds made from names: the numbering of things and arrows, and the limits [2].

An arrow of a world that is made is told as a triple: the name of the thing from which
it leads, the name of that to which it leads, and its own name. The things are numbered
by their names, so these triples ascend just as the arrows are to be numbered.
"""

from arrowworlds.errors import TooMany
from arrowworlds.worlds import MOST_ARROWS, MOST_THINGS


def check_sizes(things, arrows):
    """Raise TooMany for a number of things that no world has, and then for such a number of arrows."""
    if things > MOST_THINGS:
        raise TooMany(MOST_THINGS)
    if arrows > MOST_ARROWS:
        raise TooMany(MOST_ARROWS)


def listed_arrows(stills, arrows):
    """All arrows in the sequence of their numbers: the still ones first, then the others."""
    first = sorted(stills)
    return first + sorted([arrow for arrow in arrows if arrow not in first])


def places_of(rows):
    """For each of the rows its number."""
    return {row: k for k, row in enumerate(rows)}


def then_in(table):
    """What tells the name (f.g,) of two arrows with the names (f,) and (g,), for a table of what two arrows make."""
    return lambda first, second: (table[first[2][0]][second[2][0]],)


def table_row(listed, places, then, f):
    """The row of the arrow f in the table of the world."""
    return tuple([places[(f[0], g[1], then(f, g))] if f[1] == g[0] else -1 for g in listed])


def made_world(things, stills, arrows, then):
    """The world with these things and arrows; then(f, g) tells the name of f and then g.

    Things are told by their names and arrows by triples, in any sequence; the arrows
    contain the still ones.
    """
    check_sizes(len(things), len(arrows))
    number = places_of(sorted(things))
    listed = listed_arrows(stills, arrows)
    places = places_of(listed)
    ends = tuple([(number[f[0]], number[f[1]]) for f in listed])
    return (len(things), ends, tuple([table_row(listed, places, then, f) for f in listed]))
