"""Arrows put together to parts, and the copies of worlds."""

from arrowworlds.copying import all_copies, one_copy
from arrowworlds.making import listed_arrows, made_world
from arrowworlds.partings import parts_told, put_together

MOST_COPIES = 1000


def carried_pairs(table, f, g):
    """The pairs that f and g make with each arrow that follows them or that they follow."""
    arrows = range(len(table))
    ahead = [(table[f][h], table[g][h]) for h in arrows if table[f][h] >= 0]
    return ahead + [(table[h][f], table[h][g]) for h in arrows if table[h][f] >= 0]


def least_joined(world, pairs):
    """For each arrow the least arrow of its part."""
    least = list(range(len(world[1])))
    waiting = list(pairs)
    while waiting:
        f, g = waiting.pop()
        if least[f] != least[g]:
            least = put_together(least, least[f], least[g])
            waiting.extend(carried_pairs(world[2], f, g))
    return least


def joined_parts(world, pairs):
    """The finest parting of the arrows that has the pairs together and goes along with what follows."""
    return parts_told(least_joined(world, pairs))


def joined_stills(world):
    """The still arrows of the joined world, each the least arrow of its part."""
    return [((x,), (x,), (x,)) for x in range(world[0])]


def joined_arrows(world, least):
    """The arrows of the joined world, told by their names."""
    ends = world[1]
    return [((ends[f][0],), (ends[f][1],), (f,)) for f in range(len(ends)) if least[f] == f]


def joined(world, pairs):
    """The world with the same things whose arrows are the parts."""
    least = least_joined(world, pairs)
    things = [(x,) for x in range(world[0])]

    def then(first, second):
        return (least[world[2][first[2][0]][second[2][0]]],)

    return made_world(things, joined_stills(world), joined_arrows(world, least), then)


def into_joined(world, pairs):
    """The map to the joined world that takes each arrow to its part."""
    least = least_joined(world, pairs)
    listed = listed_arrows(joined_stills(world), joined_arrows(world, least))
    number = {arrow[2][0]: k for k, arrow in enumerate(listed)}
    return (tuple(range(world[0])), tuple([number[f] for f in least]))


def copies(one, other):
    """All one-to-one maps that reach all of other, ascending; raises TooMany(1000) if there are more."""
    return tuple([(q[:one[0]], q) for q in sorted(all_copies(one, other, MOST_COPIES))])


def are_copies(one, other):
    """Whether one is a copy of other."""
    return one_copy(one, other) is not None
