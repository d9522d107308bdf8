"""Squares of arrows, what fills them, and the pairs of kinds that part every arrow."""

from arrowworlds.bits import bits_of, mask_of, unions_of
from arrowworlds.errors import TooMany
from arrowworlds.worlds import between, turned

MOST_MOVING = 12


def lifts(world, e, m, u, v):
    """The arrows l with e.l = u and l.m = v, ascending, for a square (u, v) of e and m."""
    table = world[2]
    arrows = between(world, world[1][e][1], world[1][m][0])
    return tuple([k for k in arrows if table[e][k] == u and table[k][m] == v])


def many_squares(world, e, m):
    """How many squares e and m have."""
    table = world[2]
    made = [table[u][m] for u in between(world, world[1][e][0], world[1][m][0])]
    return sum([made.count(table[e][v]) for v in between(world, world[1][e][1], world[1][m][1])])


def does_fill_against(world, e, m):
    """Whether each square of e and m has exactly one arrow that lifts it."""
    table = world[2]
    # Each arrow lifts just one square: none is lifted twice, and all are lifted.
    lifted = [(table[e][k], table[k][m]) for k in between(world, world[1][e][1], world[1][m][0])]
    return len(set(lifted)) == len(lifted) == many_squares(world, e, m)


def does_fill_against_all(world, e, kind):
    """Whether e fills against each arrow of the kind."""
    for m in kind:
        if not does_fill_against(world, e, m):
            return False
    return True


def right_of(world, kind):
    """The kind of all arrows against which each arrow of the kind fills."""
    # The turned world has the sides exchanged.
    return left_of(turned(world), kind)


def left_of(world, kind):
    """The kind of all arrows that fill against each arrow of the kind."""
    return tuple([e for e in range(len(world[1])) if does_fill_against_all(world, e, kind)])


def common_arrows(sides, mask):
    """The set of the arrows that are in the side of each arrow of the set."""
    found = (1 << len(sides)) - 1
    for f in bits_of(mask):
        found &= sides[f]
    return found


def full_sides(sides):
    """All sets of arrows that are what some sides have in common, perhaps none of them."""
    every = (1 << len(sides)) - 1
    return [every - left_out for left_out in unions_of([every - side for side in sides], None)]


def makers_of(world):
    """For each arrow f the pairs (e, m) of arrows with e.m = f, ascending."""
    found = [[] for _ in world[1]]
    for e, row in enumerate(world[2]):
        for m, both in enumerate(row):
            if both >= 0:
                found[both].append((e, m))
    return found


def is_parted_by(pairs, left, right):
    """Whether in one of the pairs the first arrow is in the set left and the second one in the set right."""
    for e, m in pairs:
        if left >> e & right >> m & 1:
            return True
    return False


def parting_pairs(world):
    """All parting pairs, ascending; raises TooMany(12) if more than 12 arrows are not still."""
    arrows = range(len(world[1]))
    if len(arrows) - world[0] > MOST_MOVING:
        raise TooMany(MOST_MOVING)
    fills = [[does_fill_against(world, e, m) for m in arrows] for e in arrows]
    rights = [mask_of([m for m in arrows if fills[e][m]]) for e in arrows]
    lefts = [mask_of([e for e in arrows if fills[e][m]]) for m in arrows]
    makers = makers_of(world)
    found = []
    for left in full_sides(lefts):
        right = common_arrows(rights, left)
        if all([is_parted_by(pairs, left, right) for pairs in makers]):
            found.append((tuple(bits_of(left)), tuple(bits_of(right))))
    return tuple(sorted(found))


def parted(world, pair, f):
    """The least pair (e, m) with e of the left and m of the right kind of the parting pair and e.m = f."""
    left, right = pair
    return [(e, m) for e, m in makers_of(world)[f] if e in left and m in right][0]
