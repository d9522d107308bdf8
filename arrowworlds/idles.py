"""Idle arrows: what they split over, the completed worlds in which all of them split, and shares."""

from arrowworlds.alikes import are_alike
from arrowworlds.arrows import is_idle
from arrowworlds.making import check_sizes, listed_arrows, made_world, places_of, then_in
from arrowworlds.worlds import between


def splits_over(world, e, y):
    """The pairs of an arrow r to y and an arrow s from y with r.s = e and s.r still, ascending."""
    table = world[2]
    x = world[1][e][0]
    backs = between(world, y, x)
    return [(r, s) for r in between(world, x, y) for s in backs if table[r][s] == e and table[s][r] == y]


def split_of(world, e):
    """The least tuple (y, r, s) by which the idle arrow e splits over y, or None if there is none."""
    for y in range(world[0]):
        pairs = splits_over(world, e, y)
        if pairs:
            return (y,) + pairs[0]
    return None


def idle_arrows(world):
    """The idle arrows, ascending."""
    return [e for e in range(len(world[1])) if is_idle(world, e)]


def is_split(world):
    """Whether every idle arrow splits."""
    return all([split_of(world, e) is not None for e in idle_arrows(world)])


def completed_stills(idles):
    """The still arrows of the completed world, told by their names."""
    return [((e,), (e,), (e,)) for e in idles]


def completed_arrows(world, idles):
    """The arrows of the completed world, told by their names."""
    table = world[2]
    arrows = range(len(table))
    return [((d,), (e,), (f,)) for d in idles for e in idles for f in arrows if table[d][f] == f == table[f][e]]


def completed(world):
    """The world whose things are the idle arrows, in which all of these split."""
    idles = idle_arrows(world)
    things = [(e,) for e in idles]
    return made_world(things, completed_stills(idles), completed_arrows(world, idles), then_in(world[2]))


def into_completed(world):
    """The map that takes each thing to its still arrow and each arrow to itself."""
    idles = idle_arrows(world)
    arrows = completed_arrows(world, idles)
    check_sizes(len(idles), len(arrows))
    place = places_of(listed_arrows(completed_stills(idles), arrows))
    # The still arrows are the first ones, so they are the first things, too.
    return (tuple(range(world[0])), tuple([place[((x,), (y,), (f,))] for f, (x, y) in enumerate(world[1])]))


def are_exchangeable(one, other):
    """Whether the completed worlds are alike."""
    first = completed(one)
    return are_alike(first, completed(other))


def shares_of(world, x):
    """The things y with an arrow there and one back that make the still arrow of y, ascending."""
    return tuple([y for y in range(world[0]) if is_share(world, x, y)])


def is_share(world, x, y):
    """Whether some arrow from y to x, and then some arrow back, is still."""
    return any([world[2][s][r] == y for s in between(world, y, x) for r in between(world, x, y)])
