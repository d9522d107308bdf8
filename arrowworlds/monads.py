"""Monads on worlds."""

from arrowworlds.arrows import back_of
from arrowworlds.families import families, is_family
from arrowworlds.kinds import is_row
from arrowworlds.maps import behind, map_breach, still_map


def is_still_ahead(world, value):
    """Whether u[T(x)].m[x] is still for each x."""
    along, u, m = value
    return all([world[2][u[along[0][x]]][m[x]] < world[0] for x in range(world[0])])


def is_still_along(world, value):
    """Whether T(u[x]).m[x] is still for each x."""
    along, u, m = value
    return all([world[2][along[1][u[x]]][m[x]] < world[0] for x in range(world[0])])


def monad_breach(world, value):
    """None for a monad on the world, and otherwise the word of the first broken rule."""
    if not is_row(value, 3) or map_breach(world, world, value[0]) is not None:
        return "map"
    along, u, m = value
    if not is_family(world, world, still_map(world), along, u):
        return "unit"
    if not is_family(world, world, behind(along, along), along, m):
        return "mult"
    if not is_still_ahead(world, value):
        return "left"
    return None if is_still_along(world, value) else "right"


def monad_of(one, other, first, second, unit, counit):
    """The monad of a partnership of the map first from one to other and the map second back."""
    return (behind(first, second), unit, tuple([second[1][counit[y]] for y in first[0]]))


def monads_over(world, along):
    """All monads whose first entry the map is, ascending; raises TooMany(1000) for more families than 1000."""
    units = families(world, world, still_map(world), along)
    mults = {m: True for m in families(world, world, behind(along, along), along)}
    found = []
    for u in units:
        # All entries of m are turnable, so that they are told by u.
        m = tuple([back_of(world, u[y]) for y in along[0]])
        if m in mults and is_still_along(world, (along, u, m)):
            found.append((along, u, m))
    return tuple(found)
