"""The worlds of free algebras and of all algebras of a monad, and the maps to them and back."""

from arrowworlds.making import check_sizes, listed_arrows, made_world, places_of, then_in
from arrowworlds.monads import monad_of
from arrowworlds.worlds import between


def free_stills(monad):
    """The still arrows of the world of free algebras, told by their names."""
    return [((x,), (x,), (f,)) for x, f in enumerate(monad[1])]


def free_arrows(world, monad):
    """All arrows of the world of free algebras, told by their names."""
    things = range(world[0])
    return [((x,), (y,), (f,)) for x in things for y in things for f in between(world, x, monad[0][0][y])]


def free_algebras(world, monad):
    """The world with the same things in which an arrow to y is one to T(y)."""
    along, _, m = monad
    table = world[2]

    def then(f, g):
        return (table[table[f[2][0]][along[1][g[2][0]]]][m[g[1][0]]],)

    things = [(x,) for x in range(world[0])]
    return made_world(things, free_stills(monad), free_arrows(world, monad), then)


def free_listed(world, monad):
    """The arrows of the world of free algebras in the sequence of their numbers; raises the errors of making it."""
    arrows = free_arrows(world, monad)
    check_sizes(world[0], len(arrows))
    return listed_arrows(free_stills(monad), arrows)


def free_sides(world, monad):
    """The map from the world to the world of free algebras, and the one back."""
    along, u, m = monad
    table = world[2]
    listed = free_listed(world, monad)
    places = places_of(listed)
    there = [places[((x,), (y,), (table[f][u[y]],))] for f, (x, y) in enumerate(world[1])]
    back = [table[along[1][f[0]]][m[y[0]]] for _, y, f in listed]
    return ((tuple(range(world[0])), tuple(there)), (along[0], tuple(back)))


def all_things(world, monad):
    """The algebras (x, a), ascending."""
    along, u, m = monad
    table = world[2]
    found = []
    for x in range(world[0]):
        for a in between(world, along[0][x], x):
            if table[u[x]][a] == x and table[along[1][a]][a] == table[m[x]][a]:
                found.append((x, a))
    return found


def all_stills(things):
    """The still arrows of the world of all algebras, told by their names."""
    return [(name, name, (name[0],)) for name in things]


def arrows_between(world, along, start, end):
    """The arrows from the algebra start to the algebra end, told by their names."""
    table = world[2]
    arrows = between(world, start[0], end[0])
    return [(start, end, (f,)) for f in arrows if table[along[1][f]][end[1]] == table[start[1]][f]]


def all_arrows(world, monad, things):
    """All arrows of the world of all algebras, told by their names."""
    return [arrow for start in things for end in things for arrow in arrows_between(world, monad[0], start, end)]


def all_algebras(world, monad):
    """The world of all algebras of the monad."""
    things = all_things(world, monad)
    return made_world(things, all_stills(things), all_arrows(world, monad, things), then_in(world[2]))


def listed_algebras(world, monad):
    """The things and the arrows of the world of all algebras as they are numbered; raises the errors of making it."""
    things = all_things(world, monad)
    arrows = all_arrows(world, monad, things)
    check_sizes(len(things), len(arrows))
    return (things, listed_arrows(all_stills(things), arrows))


def map_to_algebras(listing, ends, names, arrows):
    """The map to the listed algebras from arrows with the ends, by the algebra of each thing and the arrow of each."""
    number, places = places_of(listing[0]), places_of(listing[1])
    images = [places[(names[x], names[y], (arrows[f],))] for f, (x, y) in enumerate(ends)]
    return (tuple([number[name] for name in names]), tuple(images))


def all_sides(world, monad):
    """The map from the world to the world of all algebras, and the one back."""
    along, _, m = monad
    listing = listed_algebras(world, monad)
    there = map_to_algebras(listing, world[1], list(zip(along[0], m)), along[1])
    return (there, (tuple([x for x, _ in listing[0]]), tuple([f[0] for _, _, f in listing[1]])))


def compared(one, other, first, second, unit, counit):
    """The map from other to the world of all algebras of the monad of a partnership."""
    listing = listed_algebras(one, monad_of(one, other, first, second, unit, counit))
    names = [(x, second[1][counit[y]]) for y, x in enumerate(second[0])]
    return map_to_algebras(listing, other[1], names, second[1])
