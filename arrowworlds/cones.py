"""Cones on drawings, and the best ones among them."""

from arrowworlds.families import families
from arrowworlds.maps import behind
from arrowworlds.worlds import between, turned


def constant_map(shape, x):
    """The map from the shape that takes all things to x and all arrows to its still arrow."""
    return ((x,) * shape[0], (x,) * len(shape[1]))


def cones(shape, world, drawing, x):
    """All cones on the drawing from x, ascending; raises TooMany(1000) if there are more."""
    return families(shape, world, constant_map(shape, x), drawing)


def all_cones(shape, world, drawing):
    """For each thing the cones on the drawing from it; raises TooMany(1000) as cones."""
    return [cones(shape, world, drawing, x) for x in range(world[0])]


def has_one_from_each(world, x):
    """Whether exactly one arrow leads to x from each thing."""
    return all([len(between(world, y, x)) == 1 for y in range(world[0])])


def ends_of(world):
    """The things to which exactly one arrow leads from each thing, ascending."""
    return tuple([x for x in range(world[0]) if has_one_from_each(world, x)])


def begins_of(world):
    """The things from which exactly one arrow leads to each thing, ascending."""
    return ends_of(turned(world))


def cone_behind(world, u, legs):
    """The cone with the legs behind the arrow u."""
    return tuple([world[2][u][leg] for leg in legs])


def arrows_by_cone(world, y, x, legs):
    """For each cone from y that comes from the legs, the ascending tuple of all arrows from y to x by which it does."""
    found = {}
    for u in between(world, y, x):
        cone = cone_behind(world, u, legs)
        found[cone] = found.get(cone, ()) + (u,)
    return found


def rival_among(world, every, x, legs):
    """The rival of the cone from x among every, the cones from each thing, or None."""
    for y in range(world[0]):
        arrows = arrows_by_cone(world, y, x, legs)
        for cone in every[y]:
            told = arrows.get(cone, ())
            if len(told) != 1:
                return (y, cone, told)
    return None


def has_as_many(world, every, x):
    """Whether from each thing as many arrows lead to x as there are cones from it, as where one from x is best."""
    return all([len(between(world, y, x)) == len(every[y]) for y in range(world[0])])


def best_among(world, every):
    """The best ones among every, the cones from each thing, ascending."""
    things = [x for x in range(world[0]) if has_as_many(world, every, x)]
    return [(x, legs) for x in things for legs in every[x] if rival_among(world, every, x, legs) is None]


def best_cone(shape, world, drawing):
    """The least best cone (x, legs) on the drawing, or None; raises TooMany(1000) as cones for any thing."""
    best = best_among(world, all_cones(shape, world, drawing))
    return best[0] if best else None


def rival_of(shape, world, drawing, x, legs):
    """None if the cone is best, and otherwise the least (y, cone, arrows) where not just one arrow leads to it."""
    return rival_among(world, all_cones(shape, world, drawing), x, legs)


def best_cocone(shape, world, drawing):
    """What best_cone returns for the drawing in the turned worlds."""
    return best_cone(turned(shape), turned(world), drawing)


def does_keep(one, other, along, shape, drawing):
    """Whether the map takes each best cone on the drawing to a best one."""
    every = all_cones(shape, one, drawing)
    there = all_cones(shape, other, behind(drawing, along))
    p, q = along
    taken = [(p[x], tuple([q[leg] for leg in legs])) for x, legs in best_among(one, every)]
    return all([rival_among(other, there, x, legs) is None for x, legs in taken])
