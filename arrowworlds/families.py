"""Families: what leads from a map to a map, and the worlds of maps and families."""

from arrowworlds.bits import mask_of
from arrowworlds.choosing import all_rows, count_rows
from arrowworlds.kinds import is_number_row
from arrowworlds.making import check_sizes, made_world
from arrowworlds.mapping import Mapping
from arrowworlds.maps import MOST_MAPS
from arrowworlds.worlds import between

MOST_FAMILIES = 1000


def has_family_ends(one, other, first, second, value):
    """Whether each entry leads from where the first map takes the thing to where the second one does."""
    ends = other[1]
    return all([ends[value[x]] == (first[0][x], second[0][x]) for x in range(one[0])])


def goes_along(one, other, first, second, value):
    """Whether the entries, which have the right ends, go along with each arrow."""
    table = other[2]
    for f, (x, y) in enumerate(one[1]):
        if table[first[1][f]][value[y]] != table[value[x]][second[1][f]]:
            return False
    return True


def is_family(one, other, first, second, value):
    """Whether any value is a family from the first map to the second one."""
    if not is_number_row(value, one[0], 0, len(other[1]) - 1):
        return False
    return has_family_ends(one, other, first, second, value) and goes_along(one, other, first, second, value)


def family_choices(one, other, first, second):
    """For each thing the arrows from where the first map takes it to where the second one does."""
    return [mask_of(between(other, first[0][x], second[0][x])) for x in range(one[0])]


def family_ties(one, other, first, second):
    """For each arrow that is not still what the entries at its ends are to make alike, as a tie of choosing."""
    table = other[2]
    found = []
    for f in range(one[0], len(one[1])):
        x, y = one[1][f]
        found.append((x, y, [row[second[1][f]] for row in table], table[first[1][f]]))
    return found


def families_up_to(one, other, first, second, most):
    """All families from the first map to the second one, ascending; raises TooMany if there are more than most."""
    choices = family_choices(one, other, first, second)
    return tuple(all_rows(choices, family_ties(one, other, first, second), most))


def families(one, other, first, second):
    """All families from the first map to the second one, ascending; raises TooMany(1000) if there are more."""
    return families_up_to(one, other, first, second, MOST_FAMILIES)


def then_families(other, a, b):
    """The family that is first a and then b, between maps to other."""
    return tuple([other[2][f][g] for f, g in zip(a, b)])


def beside(third, a, b, near, far):
    """The family a, whose second map is near, beside the family b, whose first map is far."""
    return tuple([third[2][far[1][f]][b[y]] for f, y in zip(a, near[0])])


def many_families(one, other, maps):
    """How many families lead between the maps in all; raises TooMany(1000) as families."""
    many = 0
    for first in maps:
        for second in maps:
            choices = family_choices(one, other, first, second)
            many += count_rows(choices, family_ties(one, other, first, second), MOST_FAMILIES)
    return many


def map_name(along):
    """The name of a map as a thing: where it takes the things, and behind it where it takes the arrows."""
    return along[0] + along[1]


def named_families(one, other, first, second):
    """The families from the first map to the second one as arrows, told by their names."""
    return [(map_name(first), map_name(second), a) for a in families(one, other, first, second)]


def map_world(one, other):
    """The world whose things are the maps from one to other and whose arrows are the families between them."""
    mapping = Mapping(one, other, MOST_MAPS)
    check_sizes(mapping.many, 0)
    maps = mapping.maps()
    check_sizes(len(maps), many_families(one, other, maps))
    stills = [(map_name(along), map_name(along), along[0]) for along in maps]
    arrows = [arrow for first in maps for second in maps for arrow in named_families(one, other, first, second)]

    def then(f, g):
        return then_families(other, f[2], g[2])

    return made_world([map_name(along) for along in maps], stills, arrows, then)
