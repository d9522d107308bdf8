"""Parts of lots, fans of arrows, and the lot of truths."""

from arrowworlds.bits import bits_of, mask_of, unions_of
from arrowworlds.lots import lot_elements, moved_elements, parted_row, sized

MOST_PARTS = 400


def parts_of(world, lot):
    """All parts of the lot, ascending; raises TooMany(400) if there are more."""
    every = lot_elements(lot)
    places = {element: k for k, element in enumerate(every)}
    moved = moved_elements(world, lot)
    masks = [mask_of([places[other] for _, other in moved[element]]) for element in every]
    parts = [[every[k] for k in bits_of(mask)] for mask in unions_of(masks, MOST_PARTS)]
    return tuple(sorted([part_told(world, part) for part in parts]))


def part_told(world, part):
    """The part with these elements: a tuple of its elements at each thing."""
    return tuple([tuple([k for y, k in part if y == x]) for x in range(world[0])])


def arrows_from(world, x):
    """The arrows that lead from x, ascending."""
    return [f for f, pair in enumerate(world[1]) if pair[0] == x]


def arrows_into(world, lot, x, k, part):
    """The arrows from x that move its element k into the part, ascending."""
    return tuple([f for f in arrows_from(world, x) if lot[1][f][k] in part[world[1][f][1]]])


def so_part(world, lot, one, other):
    """The part of the elements that each arrow moves into the other part if it moves them into the one."""
    found = []
    for x, k in lot_elements(lot):
        there = arrows_into(world, lot, x, k, other)
        if all([f in there for f in arrows_into(world, lot, x, k, one)]):
            found.append((x, k))
    return part_told(world, found)


def reach_of(world, f):
    """The set of all arrows that f makes with those that follow it."""
    return mask_of([both for both in world[2][f] if both >= 0])


def fans(world, x):
    """All fans at x, ascending; raises TooMany(400) if there are more."""
    masks = [reach_of(world, f) for f in arrows_from(world, x)]
    return tuple(sorted([tuple(bits_of(mask)) for mask in unions_of(masks, MOST_PARTS)]))


def fan_behind(world, fan, f):
    """The fan of the arrows g for which f and then g is in the fan."""
    return tuple([g for g, both in enumerate(world[2][f]) if both >= 0 and both in fan])


def all_fans(world):
    """For each thing its fans; raises TooMany(400) if there are more at some thing."""
    return [fans(world, x) for x in range(world[0])]


def fan_places(world):
    """For each thing the numbers of its fans; raises TooMany(400), and then TooMany(40)."""
    every = all_fans(world)
    sized([len(rows) for rows in every])
    return [{fan: k for k, fan in enumerate(rows)} for rows in every]


def truths(world):
    """The lot whose elements at x are the fans at x, moved to the fans behind arrows."""
    places = fan_places(world)
    moves = [tuple([places[y][fan_behind(world, fan, f)] for fan in places[x]]) for f, (x, y) in enumerate(world[1])]
    return (tuple([len(numbers) for numbers in places]), tuple(moves))


def truth_family(world, lot, part):
    """The family from the lot to the truths that takes each element to the fan of what moves it into the part."""
    places = fan_places(world)
    row = tuple([places[x][arrows_into(world, lot, x, k, part)] for x, k in lot_elements(lot)])
    return parted_row(lot[0], row)
