"""Maps from worlds to worlds."""

from arrowworlds.arrows import back_of
from arrowworlds.kinds import is_number_row, is_row
from arrowworlds.mapping import Mapping
from arrowworlds.worlds import between

MOST_MAPS = 1000


def has_map_form(one, other, value):
    """Whether the value is a pair of tuples of things and of arrows of other, of the right lengths."""
    if not is_row(value, 2):
        return False
    if not is_number_row(value[0], one[0], 0, other[0] - 1):
        return False
    return is_number_row(value[1], len(one[1]), 0, len(other[1]) - 1)


def keeps_ends(one, other, along):
    """Whether each arrow goes to one between the things to which its ends go."""
    p, q = along
    return all([other[1][q[f]] == (p[x], p[y]) for f, (x, y) in enumerate(one[1])])


def keeps_then(one, other, along):
    """Whether f and then g goes to what f and g go to, one behind the other."""
    q = along[1]
    for f, row in enumerate(one[2]):
        for g, both in enumerate(row):
            if both >= 0 and q[both] != other[2][q[f]][q[g]]:
                return False
    return True


def map_breach(one, other, value):
    """None for a map from one to other, and otherwise the word of the first broken rule."""
    if not has_map_form(one, other, value):
        return "form"
    if not keeps_ends(one, other, value):
        return "ends"
    if value[1][:one[0]] != value[0]:
        return "still"
    if not keeps_then(one, other, value):
        return "then"
    return None


def still_map(world):
    """The map that takes each thing and each arrow to itself."""
    return (tuple(range(world[0])), tuple(range(len(world[1]))))


def behind(first, second):
    """The map that is first one and then the other."""
    things = tuple([second[0][x] for x in first[0]])
    return (things, tuple([second[1][f] for f in first[1]]))


def maps_between(one, other):
    """All maps from one to other, ascending; raises TooMany(1000) if there are more."""
    return Mapping(one, other, MOST_MAPS).maps()


def is_full(one, other, along):
    """Whether each arrow between images of two things is an image of an arrow between these."""
    p, q = along
    things = range(one[0])
    for x in things:
        for y in things:
            images = [q[f] for f in between(one, x, y)]
            if not all([g in images for g in between(other, p[x], p[y])]):
                return False
    return True


def is_faithful(one, other, along):
    """Whether no two arrows that lead from one thing to one thing go to one arrow."""
    ends, q = one[1], along[1]
    return len(set([(ends[f], g) for f, g in enumerate(q)])) == len(q)


def does_fill(one, other, along):
    """Whether a turnable arrow leads to each thing of other from an image of a thing."""
    p = along[0]
    reached = [y for g, (x, y) in enumerate(other[1]) if x in p and back_of(other, g) is not None]
    return all([z in reached for z in range(other[0])])
