"""Reflecting parts of worlds, and closures of orders."""

from arrowworlds.alikes import same_parts
from arrowworlds.bits import bits_of, mask_of
from arrowworlds.errors import NotOrder
from arrowworlds.worlds import between


def is_gate_to(world, f, z):
    """Whether each arrow from where f leads from to z is f.h for exactly one arrow h."""
    x, t = world[1][f]
    made = sorted([world[2][f][h] for h in between(world, t, z)])
    return made == list(between(world, x, z))


def gates_of(world):
    """For each arrow the set of the things to which all arrows go in just one way over it."""
    return [mask_of([z for z in range(world[0]) if is_gate_to(world, f, z)]) for f in range(len(world[1]))]


def gates_from(world, gates, things, x):
    """The pairs (t, f) of one of the things and an arrow f from x to it over which all go to all of the things."""
    part = mask_of(things)
    found = [(t, f) for f, (y, t) in enumerate(world[1]) if y == x and t in things and gates[f] & part == part]
    return sorted(found)


def reflection_by(world, gates, things):
    """The reflection of the part, told by the gates of the world, or None."""
    found = []
    for x in range(world[0]):
        pairs = gates_from(world, gates, things, x)
        if not pairs:
            return None
        found.append(pairs[0])
    return tuple(found)


def reflection(world, things):
    """The least pairs (t, f) by which the part with these things is reflecting, thing by thing, or None."""
    return reflection_by(world, gates_of(world), things)


def reflections_of(world):
    """The reflecting parts, ascending, as the keys of a dict, with their reflections."""
    gates = gates_of(world)
    every = sorted([tuple(bits_of(mask)) for mask in range(1 << world[0])])
    told = {part: reflection_by(world, gates, part) for part in every}
    return {part: told[part] for part in told if told[part] is not None}


def reflecting_parts(world):
    """All reflecting parts of the world, ascending."""
    return tuple(list(reflections_of(world)))


def check_order(world):
    """Raise NotOrder if the world is no order or two of its things are the same."""
    if len(set(world[1])) < len(world[1]):
        raise NotOrder("more than one arrow leads from a thing to a thing")
    if len(same_parts(world)) < world[0]:
        raise NotOrder("two things are the same")


def closure_by(world, pairs):
    """The map that takes each thing x to t for the pair (t, f) at x."""
    things = tuple([t for t, _ in pairs])
    return (things, tuple([between(world, things[x], things[y])[0] for x, y in world[1]]))


def closures(world):
    """All closures of an order in which no two things are the same, ascending; raises NotOrder for other worlds."""
    check_order(world)
    # Each closure is the reflection of just one part, that of the things that it keeps.
    told = reflections_of(world)
    return tuple(sorted([closure_by(world, told[part]) for part in told]))
