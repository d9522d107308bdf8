"""Alike worlds: things that are the same, skeletons, and alikenesses."""

from arrowworlds.arrows import back_of
from arrowworlds.copying import one_copy
from arrowworlds.families import is_family
from arrowworlds.kinds import is_row
from arrowworlds.made import inclusion_of, part_of
from arrowworlds.maps import behind, map_breach, still_map
from arrowworlds.partings import parts_told


def turns_to_least(world):
    """For each thing the least one that is the same, and the first turnable arrow that leads there."""
    found = [(x, x) for x in range(world[0])]
    for f, (x, y) in enumerate(world[1]):
        if y < found[x][0] and back_of(world, f) is not None:
            found[x] = (y, f)
    return found


def same_parts(world):
    """The things, parted into those that are the same."""
    return parts_told([y for y, _ in turns_to_least(world)])


def skeleton_things(world):
    """The least thing of each part of things that are the same."""
    return [part[0] for part in same_parts(world)]


def skeleton(world):
    """The part of the world with the least thing of each part of things that are the same."""
    return part_of(world, skeleton_things(world))


def skeleton_map(world):
    """The map from the skeleton that takes each thing and arrow to that from which it comes."""
    return inclusion_of(world, skeleton_things(world))


def map_to_skeleton(world):
    """The map that takes each thing to the least one that is the same, and each arrow along with this."""
    turns = turns_to_least(world)
    into = skeleton_map(world)
    table = world[2]
    number = {f: k for k, f in enumerate(into[1])}
    arrows = []
    for f, (x, y) in enumerate(world[1]):
        back = back_of(world, turns[x][1])
        arrows.append(number[table[table[back][f]][turns[y][1]]])
    return (tuple(arrows[:world[0]]), tuple(arrows))


def turned_listing(listing):
    """The listing that leads back."""
    back = {k: f for f, k in enumerate(listing)}
    return tuple([back[k] for k in range(len(listing))])


def map_over(one, other, listing, n):
    """The map from one to other over a listing of the arrows of the skeleton, which has n things."""
    return behind(behind(map_to_skeleton(one), (listing[:n], listing)), skeleton_map(other))


def alikeness(one, other):
    """An alikeness from one to other, or None if there is none."""
    first, second = skeleton(one), skeleton(other)
    listing = one_copy(first, second)
    if listing is None:
        return None
    there = map_over(one, other, listing, first[0])
    back = map_over(other, one, turned_listing(listing), first[0])
    to_least = tuple([t for _, t in turns_to_least(one)])
    from_least = tuple([back_of(other, t) for _, t in turns_to_least(other)])
    return (there, back, to_least, from_least)


def are_turnable(world, arrows):
    """Whether all of these arrows are turnable."""
    return all([back_of(world, f) is not None for f in arrows])


def is_alikeness(one, other, value):
    """Whether any value is an alikeness from one to other."""
    if not is_row(value, 4):
        return False
    there, back, a, b = value
    if map_breach(one, other, there) is not None or map_breach(other, one, back) is not None:
        return False
    if not is_family(one, one, still_map(one), behind(there, back), a) or not are_turnable(one, a):
        return False
    return is_family(other, other, behind(back, there), still_map(other), b) and are_turnable(other, b)


def are_alike(one, other):
    """Whether there is an alikeness from one to other."""
    return one_copy(skeleton(one), skeleton(other)) is not None
