"""Worlds made from worlds: products, sums, parts, and other numberings."""

from arrowworlds.making import listed_arrows, made_world, then_in


def paired_arrow(one, other, f, g):
    """The arrow (f, g) of the product, told by its names."""
    x, y = one[1][f]
    z, w = other[1][g]
    return ((x, z), (y, w), (f, g))


def product(one, other):
    """The world of the pairs of a thing of each and the pairs of an arrow of each."""
    things = [(x, y) for x in range(one[0]) for y in range(other[0])]
    stills = [(pair, pair, pair) for pair in things]
    arrows = [paired_arrow(one, other, f, g) for f in range(len(one[1])) for g in range(len(other[1]))]

    def then(first, second):
        f, g = first[2]
        h, k = second[2]
        return (one[2][f][h], other[2][g][k])

    return made_world(things, stills, arrows, then)


def sum_of(one, other):
    """The world with the things and arrows of both, those of the one first."""
    sides = (one, other)
    things = [(k, x) for k in range(2) for x in range(sides[k][0])]
    stills = [(name, name, name) for name in things]
    arrows = [((k, x), (k, y), (k, f)) for k in range(2) for f, (x, y) in enumerate(sides[k][1])]

    def then(first, second):
        k, f = first[2]
        return (k, sides[k][2][f][second[2][1]])

    return made_world(things, stills, arrows, then)


def named_stills(names):
    """The still arrows of the things that have a name, told by their names."""
    return [(names[x], names[x], (x,)) for x in names]


def named_arrows(world, names):
    """All arrows between the things that have a name, told by their names."""
    return [(names[x], names[y], (f,)) for f, (x, y) in enumerate(world[1]) if x in names and y in names]


def named_part(world, names):
    """The world of the things that have a name in the dict names, with all arrows between them."""
    things = [names[x] for x in names]
    return made_world(things, named_stills(names), named_arrows(world, names), then_in(world[2]))


def part_names(things):
    """The names of things as they are told by their numbers."""
    return {x: (x,) for x in things}


def part_of(world, things):
    """The world of some of the things, with all arrows between them."""
    return named_part(world, part_names(things))


def inclusion_of(world, things):
    """The map from the part with these things, ascending, that takes each thing and arrow to itself."""
    names = part_names(things)
    listed = listed_arrows(named_stills(names), named_arrows(world, names))
    return (tuple(things), tuple([arrow[2][0] for arrow in listed]))


def renumbered(world, things):
    """The world whose thing k is the thing things[k]."""
    return named_part(world, {x: (k,) for k, x in enumerate(things)})
