"""The search for copies: one from world to world, and by it and the copies of a world to itself all of them.

A copy is told by its listing of arrows. The copies of a world to itself are found level
by level: one arrow after another is kept, until all are. At each level one copy for each
arrow to which the next kept one can go is enough, as all others are these put behind
one another. So few searches tell many copies.
"""

from arrowworlds.bits import bits_of
from arrowworlds.choices import narrowest, settled_at, settled_places
from arrowworlds.errors import TooMany
from arrowworlds.leading import Leading, landing_of
from arrowworlds.shades import alike_arrows, traits_of

# So many dead ends of one search cost about as much as the sharp traits.
PATIENCE = 20


def put_behind(first, second):
    """The listing that is first one and then the other."""
    return tuple([second[k] for k in first])


def movers_to(movers, f, still):
    """For each arrow to which the movers lead f, a listing made of them that leads f there."""
    found = {f: still}
    waiting = [f]
    while waiting:
        g = waiting.pop()
        for mover in movers:
            if mover[g] not in found:
                found[mover[g]] = put_behind(found[g], mover)
                waiting.append(mover[g])
    return found


def levels_of(search, choices):
    """For each level the choices of the copies that keep all arrows so far, and the arrow to be kept next."""
    found = []
    left = search.settle(choices, settled_places(choices))
    f = narrowest(left, search.chiefs)
    while f is not None:
        found.append((left, f))
        left = search.settle(settled_at(left, f, f), [f])
        f = narrowest(left, search.chiefs)
    return found


def level_movers(search, level, movers, still, patience):
    """For each arrow to which the arrow of the level can go, a copy that leads it there; None without patience.

    The movers are copies that keep the arrows of the level; those that are found are put
    to them.
    """
    left, f = level
    found = movers_to(movers, f, still)
    missed = {}
    for g in bits_of(left[f]):
        if g not in found and g not in missed:
            rows = search.found(settled_at(left, f, g), [f], 0, patience)
            if rows is None:
                return None
            if rows:
                movers.append(rows[0])
                found = movers_to(movers, f, still)
            else:
                missed.update(movers_to(movers, g, still))
    return list(found.values())


def movers_by_level(world, traits, most, patience):
    """The copies of a world to itself at each level, from the last one up; None without patience.

    It stops at the level at which there are more than most copies in all.
    """
    search = Leading(world, landing_of(world), True)
    still = tuple(range(len(world[1])))
    movers, found = [], []
    many = 1
    for level in reversed(levels_of(search, alike_arrows(traits, traits))):
        if many <= most:
            told = level_movers(search, level, movers, still, patience)
            if told is None:
                return None
            found.append(told)
            many *= len(told)
    return found


def self_movers(world, most):
    """The copies of a world to itself at each level, as in movers_by_level."""
    found = movers_by_level(world, traits_of(world, False), most, PATIENCE)
    return movers_by_level(world, traits_of(world, True), most, None) if found is None else found


def search_one(one, other, sharp, patience):
    """The list of one copy, told by its listing, or of none if there is none; None without patience."""
    choices = alike_arrows(traits_of(one, sharp), traits_of(other, sharp))
    return Leading(one, landing_of(other), True).found(choices, settled_places(choices), 0, patience)


def one_copy(one, other):
    """The listing of the arrows for some copy, or None if there is none."""
    if one == other:
        return tuple(range(len(one[1])))
    if one[0] != other[0] or len(one[1]) != len(other[1]):
        return None
    rows = search_one(one, other, False, PATIENCE)
    if rows is None:
        rows = search_one(one, other, True, None)
    return rows[0] if rows else None


def all_copies(one, other, most):
    """The listings of the arrows for all copies; raises TooMany if there are more than most."""
    first = one_copy(one, other)
    if first is None:
        return []
    rows = [first]
    for found in reversed(self_movers(one, most)):
        if len(rows) * len(found) > most:
            raise TooMany(most)
        rows = [put_behind(mover, row) for row in rows for mover in found]
    return rows
