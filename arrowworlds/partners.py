"""Partners of maps: what stands beneath a thing, right and left partners, and partnerships."""

from arrowworlds.cones import ends_of
from arrowworlds.families import families, goes_along, is_family
from arrowworlds.kinds import is_row
from arrowworlds.making import check_sizes, made_world, then_in
from arrowworlds.maps import behind, still_map
from arrowworlds.worlds import between, turned


def beneath_things(one, other, along, y):
    """The pairs (x, f) of a thing of one and an arrow from where it is taken to y, ascending."""
    return [(x, f) for x in range(one[0]) for f in between(other, along[0][x], y)]


def beneath_arrows(one, other, along, start, end):
    """The arrows from the pair start to the pair end, told by their names."""
    table = other[2]
    arrows = between(one, start[0], end[0])
    return [(start, end, (g,)) for g in arrows if table[along[1][g]][end[1]] == start[1]]


def beneath(one, other, along, y):
    """The world of what the map takes to a thing from which an arrow leads to y."""
    things = beneath_things(one, other, along, y)
    check_sizes(len(things), 0)
    arrows = [arrow for start in things for end in things for arrow in beneath_arrows(one, other, along, start, end)]
    return made_world(things, [(name, name, (name[0],)) for name in things], arrows, then_in(one[2]))


def least_ends(one, other, along):
    """For each thing of other the least end beneath it, told by its name, or None if there is none."""
    # All worlds are made ahead of all else, for their errors.
    ends = [ends_of(beneath(one, other, along, y)) for y in range(other[0])]
    return [beneath_things(one, other, along, y)[found[0]] if found else None for y, found in enumerate(ends)]


def led_arrow(one, other, along, things, counit, h):
    """The arrow of one that an arrow h of other comes from over the counit."""
    y, z = other[1][h]
    for g in between(one, things[y], things[z]):
        if other[2][along[1][g]][counit[z]] == other[2][counit[y]][h]:
            return g
    return None


def right_partner(one, other, along):
    """The right partner of the map and its counit, or None if there is none."""
    ends = least_ends(one, other, along)
    if None in ends:
        return None
    things = tuple([x for x, _ in ends])
    counit = tuple([f for _, f in ends])
    arrows = [led_arrow(one, other, along, things, counit, h) for h in range(len(other[1]))]
    return ((things, tuple(arrows)), counit)


def lacking(one, other, along):
    """The least thing of other beneath which there is no end, or None."""
    ends = least_ends(one, other, along)
    return ends.index(None) if None in ends else None


def left_partner(one, other, along):
    """The right partner of the map between the turned worlds."""
    return right_partner(turned(one), turned(other), along)


def left_lacking(one, other, along):
    """The least thing of other beneath which there is no end in the turned worlds, or None."""
    return lacking(turned(one), turned(other), along)


def does_undo(one, other, first, second, value):
    """Whether a pair (u, e) of families makes still arrows on both sides."""
    u, e = value
    ours = all([other[2][first[1][u[x]]][e[first[0][x]]] < other[0] for x in range(one[0])])
    return ours and all([one[2][u[second[0][y]]][second[1][e[y]]] < one[0] for y in range(other[0])])


def is_partnership(one, other, first, second, value):
    """Whether any value is a partnership of the map first from one to other and the map second back."""
    if not is_row(value, 2):
        return False
    if not is_family(one, one, still_map(one), behind(first, second), value[0]):
        return False
    if not is_family(other, other, behind(second, first), still_map(other), value[1]):
        return False
    return does_undo(one, other, first, second, value)


def counits_at(one, other, first, second, y):
    """For each arrow from G(y) to GFG(y) the arrows e from FG(y) to y that make a still arrow with it."""
    x = second[0][y]
    found = {}
    for e in between(other, first[0][x], y):
        for u in between(one, x, second[0][first[0][x]]):
            if one[2][u][second[1][e]] == x:
                found[u] = found.get(u, ()) + (e,)
    return found


def counit_of(counits, second, u):
    """The entries that may stand at each thing in the counit for the unit u, or None if there are none or several."""
    found = [told.get(u[second[0][y]], ()) for y, told in enumerate(counits)]
    # With a partnership the arrow is told by u, so that where several fit there is none.
    if not all([len(arrows) == 1 for arrows in found]):
        return None
    return tuple([arrows[0] for arrows in found])


def partnerships(one, other, first, second):
    """All partnerships of both maps, ascending; raises TooMany(1000) for more families that could be units."""
    units = families(one, one, still_map(one), behind(first, second))
    counits = [counits_at(one, other, first, second, y) for y in range(other[0])]
    there, still = behind(second, first), still_map(other)
    found = []
    for u in units:
        e = counit_of(counits, second, u)
        if e is not None and goes_along(other, other, there, still, e) and does_undo(one, other, first, second, (u, e)):
            found.append((u, e))
    return tuple(found)
