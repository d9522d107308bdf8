"""The pieces of a world: things between which no arrows lead are in unlike ones."""

from arrowworlds.partings import put_together

LONE = (1, ((0, 0),), ((0,),))


def pieces_of(world):
    """For each piece its arrows, ascending."""
    least = list(range(world[0]))
    for x, y in world[1][world[0]:]:
        if least[x] != least[y]:
            least = put_together(least, least[x], least[y])
    found = {}
    for f, (x, _) in enumerate(world[1]):
        found.setdefault(least[x], []).append(f)
    return list(found.values())


def piece_world(world, arrows):
    """The world of the arrows of a piece, in their sequence."""
    if len(arrows) == len(world[1]):
        return world
    if len(arrows) == 1:
        return LONE
    n, ends, table = world
    number = {f: k for k, f in enumerate(arrows)}
    # What does not follow stays so.
    number[-1] = -1
    rows = tuple([tuple([number[table[f][g]] for g in arrows]) for f in arrows])
    things = [f for f in arrows if f < n]
    return (len(things), tuple([(number[ends[f][0]], number[ends[f][1]]) for f in arrows]), rows)
