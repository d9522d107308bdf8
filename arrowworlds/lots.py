"""Lots of elements over a world, the families between them, and the worlds of their elements."""

from arrowworlds.choosing import all_rows
from arrowworlds.errors import TooMany
from arrowworlds.kinds import is_number_row, is_row
from arrowworlds.making import check_sizes, listed_arrows, made_world, then_in
from arrowworlds.worlds import between

MOST_AT_THING = 40
MOST_LOT_FAMILIES = 1000


def has_lot_form(world, value):
    """Whether the value has sizes and moves of the right lengths and with the right elements."""
    n, ends, _ = world
    if not is_row(value, 2):
        return False
    sizes, moves = value
    if not is_number_row(sizes, n, 0, MOST_AT_THING) or not is_row(moves, len(ends)):
        return False
    return all([is_number_row(moves[f], sizes[x], 0, sizes[y] - 1) for f, (x, y) in enumerate(ends)])


def moves_along(world, moves):
    """Whether each f.g moves as f does and then g."""
    for f, row in enumerate(world[2]):
        for g, both in enumerate(row):
            if both >= 0 and moves[both] != tuple([moves[g][k] for k in moves[f]]):
                return False
    return True


def lot_breach(world, value):
    """None for a lot over the world, and otherwise the word of the first broken rule."""
    if not has_lot_form(world, value):
        return "form"
    sizes, moves = value
    if not all([moves[x] == tuple(range(sizes[x])) for x in range(world[0])]):
        return "still"
    return None if moves_along(world, moves) else "then"


def single(world, x):
    """The lot whose elements at y are the arrows from x to y."""
    rows = [between(world, x, y) for y in range(world[0])]
    moves = [tuple([rows[z].index(world[2][f][g]) for f in rows[y]]) for g, (y, z) in enumerate(world[1])]
    return (tuple([len(row) for row in rows]), tuple(moves))


def lot_elements(lot):
    """The pairs (x, k) of a thing and an element of the lot at it, ascending."""
    return [(x, k) for x, size in enumerate(lot[0]) for k in range(size)]


def moved_elements(world, lot):
    """For each element (x, k) of the lot the pairs (f, e) of an arrow and the element e to which it moves it."""
    found = {element: [] for element in lot_elements(lot)}
    for f, (x, y) in enumerate(world[1]):
        for k, moved in enumerate(lot[1][f]):
            found[(x, k)].append((f, (y, moved)))
    return found


def root_elements(moved):
    """Elements from which arrows move to all others."""
    reached = {}
    # One from which the elements so far are reached is put in their place.
    for element in moved:
        if element not in reached:
            reached.update({other: element for _, other in moved[element]})
    return [element for element in moved if reached[element] == element]


def lot_ties(moved, places, other):
    """For each arrow that moves a root what the entry there is to be moved to, as a tie of choosing."""
    found = []
    for root in root_elements(moved):
        for f, element in moved[root]:
            if f >= len(other[0]):
                found.append((places[root], places[element], other[1][f], list(range(MOST_AT_THING))))
    return found


def parted_row(sizes, row):
    """The row parted into tuples with these sizes."""
    found = []
    start = 0
    for size in sizes:
        found.append(row[start:start + size])
        start += size
    return tuple(found)


def family_rows(world, one, other, most):
    """All families between the lots, each as one row of all its entries, ascending; raises TooMany(most)."""
    moved = moved_elements(world, one)
    places = {element: k for k, element in enumerate(moved)}
    choices = [(1 << other[0][x]) - 1 for x, _ in moved]
    return all_rows(choices, lot_ties(moved, places, other), most)


def lot_families(world, one, other):
    """All families from the lot one to the lot other, ascending; raises TooMany(1000) if there are more."""
    return tuple([parted_row(one[0], row) for row in family_rows(world, one, other, MOST_LOT_FAMILIES)])


def family_of(world, lot, x, k):
    """The family from the single lot of x to the lot that takes an arrow f to the element to which it moves k."""
    return tuple([tuple([lot[1][f][k] for f in between(world, x, y)]) for y in range(world[0])])


def are_all_listings(sizes, family):
    """Whether each entry of the family has each number below the size once."""
    return all([sorted(row) == list(range(size)) for row, size in zip(family, sizes)])


def are_lot_copies(world, one, other):
    """Whether some family between the lots is one-to-one and reaches all; errors as lot_families."""
    return any([are_all_listings(other[0], family) for family in lot_families(world, one, other)])


def element_arrows(world, lot):
    """The arrows of the world of elements, told by their names."""
    return [((x, k), (y, moved), (f,)) for f, (x, y) in enumerate(world[1]) for k, moved in enumerate(lot[1][f])]


def element_stills(lot):
    """The still arrows of the world of elements, told by their names."""
    return [(name, name, (name[0],)) for name in lot_elements(lot)]


def element_world(world, lot):
    """The world whose things are the elements and whose arrows move them."""
    return made_world(lot_elements(lot), element_stills(lot), element_arrows(world, lot), then_in(world[2]))


def element_map(world, lot):
    """The map from the world of elements that takes each element to its thing."""
    things, arrows = lot_elements(lot), element_arrows(world, lot)
    check_sizes(len(things), len(arrows))
    listed = listed_arrows(element_stills(lot), arrows)
    return (tuple([x for x, _ in things]), tuple([arrow[2][0] for arrow in listed]))


def sized(sizes):
    """The sizes as a tuple; raises TooMany(40) if one is above 40."""
    if any([size > MOST_AT_THING for size in sizes]):
        raise TooMany(MOST_AT_THING)
    return tuple(sizes)


def lot_of_choices(world, keys, rows, led):
    """The lot whose elements at a thing are the rows there, ascending, with an entry for each of its keys.

    An arrow f moves a row to the one whose entry at a key is that of the row at led(f, key).
    """
    numbers = [{choice: k for k, choice in enumerate(choices)} for choices in rows]
    moves = []
    for f, (x, y) in enumerate(world[1]):
        places = {key: k for k, key in enumerate(keys[x])}
        kept = [places[led(f, key)] for key in keys[y]]
        moves.append(tuple([numbers[y][tuple([choice[k] for k in kept])] for choice in numbers[x]]))
    return (tuple([len(choices) for choices in rows]), tuple(moves))


def lot_sum(world, one, other):
    """The lot with the elements of the one and behind them those of the other one."""
    sizes = sized([a + b for a, b in zip(one[0], other[0])])
    moves = []
    for f, (_, y) in enumerate(world[1]):
        moves.append(one[1][f] + tuple([one[0][y] + k for k in other[1][f]]))
    return (sizes, tuple(moves))


def lot_product(world, one, other):
    """The lot with the pairs of an element of each, moved in both."""
    sizes = sized([a * b for a, b in zip(one[0], other[0])])
    moves = []
    for f, (_, y) in enumerate(world[1]):
        moves.append(tuple([a * other[0][y] + b for a in one[1][f] for b in other[1][f]]))
    return (sizes, tuple(moves))
