"""Worlds of cones, comma worlds, and best pairs, forks and corners."""

from arrowworlds.cones import best_cone, cone_behind, constant_map
from arrowworlds.families import families_up_to
from arrowworlds.making import check_sizes, listed_arrows, made_world, then_in
from arrowworlds.orders import apart_world, order_world
from arrowworlds.ways import free_world
from arrowworlds.worlds import MOST_THINGS, between


def cone_things(shape, world, drawing):
    """All cones, told by their names; raises TooMany(8) if there are more than 8."""
    found = []
    for x in range(world[0]):
        first = constant_map(shape, x)
        found.extend([(x,) + legs for legs in families_up_to(shape, world, first, drawing, MOST_THINGS)])
    return found


def cone_arrows(world, first, second):
    """The arrows from the first cone to the second one, told by their names."""
    arrows = between(world, first[0], second[0])
    return [(first, second, (u,)) for u in arrows if cone_behind(world, u, second[1:]) == first[1:]]


def cone_world(shape, world, drawing):
    """The world whose things are the cones on the drawing and whose arrows lead them along."""
    things = cone_things(shape, world, drawing)
    check_sizes(len(things), 0)
    arrows = [arrow for first in things for second in things for arrow in cone_arrows(world, first, second)]
    return made_world(things, [(name, name, (name[0],)) for name in things], arrows, then_in(world[2]))


def comma_things(one, other, third, first, second):
    """The triples (x, y, f) of a thing of one, a thing of other and an arrow between where they are taken."""
    pairs = [(x, y) for x in range(one[0]) for y in range(other[0])]
    return [(x, y, f) for x, y in pairs for f in between(third, first[0][x], second[0][y])]


def comma_between(one, other, third, first, second, start, end):
    """The arrows of the comma world from the triple start to the triple end, told by their names."""
    table = third[2]
    ahead = [(g, table[first[1][g]][end[2]]) for g in between(one, start[0], end[0])]
    back = [(h, table[start[2]][second[1][h]]) for h in between(other, start[1], end[1])]
    return [(start, end, (g, h)) for g, ours in ahead for h, theirs in back if ours == theirs]


def comma_parts(one, other, third, first, second):
    """The things, the still arrows and all arrows of the comma world; raises TooMany(8) and then TooMany(40)."""
    things = comma_things(one, other, third, first, second)
    check_sizes(len(things), 0)
    arrows = [arrow for start in things for end in things
              for arrow in comma_between(one, other, third, first, second, start, end)]
    check_sizes(len(things), len(arrows))
    return (things, [(name, name, name[:2]) for name in things], arrows)


def comma(one, other, third, first, second):
    """The world of what leads in third from where the first map takes one to where the second one takes other."""
    things, stills, arrows = comma_parts(one, other, third, first, second)

    def then(start, end):
        return tuple([side[2][f][g] for side, f, g in zip((one, other), start[2], end[2])])

    return made_world(things, stills, arrows, then)


def comma_side(things, listed, side):
    """The map from the comma world to one of its sides, 0 or 1."""
    return (tuple([name[side] for name in sorted(things)]), tuple([arrow[2][side] for arrow in listed]))


def comma_sides(one, other, third, first, second):
    """The two maps from the comma world to one and to other."""
    things, stills, arrows = comma_parts(one, other, third, first, second)
    listed = listed_arrows(stills, arrows)
    return (comma_side(things, listed, 0), comma_side(things, listed, 1))


def pair_shape():
    """The shape of two things."""
    return apart_world(2)


def fork_shape():
    """The shape of two arrows from one thing to another one."""
    return free_world((2, ((0, 1), (0, 1))))


def corner_shape():
    """The shape of two arrows to one thing from two others."""
    return order_world(3, ((0, 2), (1, 2)))


def best_on(shape, world, things, arrows):
    """The least best cone on the drawing that takes things and arrows that are not still so, or None."""
    return best_cone(shape, world, (things, things + arrows))


def best_pair(world, x, y):
    """The least best cone on the things x and y, or None."""
    return best_on(pair_shape(), world, (x, y), ())


def best_fork(world, f, g):
    """The least best cone on two arrows from one thing to one thing, or None."""
    return best_on(fork_shape(), world, world[1][f], (f, g))


def best_corner(world, f, g):
    """The least best cone on two arrows to one thing, or None."""
    x, z = world[1][f]
    return best_on(corner_shape(), world, (x, world[1][g][0], z), (f, g))
