"""Books of covers, and the cores of idle arrows that tell them."""

from arrowworlds.bits import mask_of, unions_of
from arrowworlds.idles import idle_arrows
from arrowworlds.kinds import is_ascending, is_number_row, is_row
from arrowworlds.truths import all_fans, arrows_from, reach_of


def fan_masks(world):
    """For each thing its fans, each with the set of its arrows; raises TooMany(400)."""
    return [{fan: mask_of(fan) for fan in every} for every in all_fans(world)]


def are_known_fans(known, row, many):
    """Whether any value is an ascending tuple of the known fans, which have arrows below many."""
    if type(row) is not tuple or not all([type(fan) is tuple for fan in row]):
        return False
    if not all([is_number_row(fan, len(fan), 0, many - 1) and fan in known for fan in row]):
        return False
    return is_ascending(row)


def has_book_form(world, known, value):
    """Whether any value is a tuple with an ascending tuple of fans for each thing."""
    if not is_row(value, world[0]):
        return False
    return all([are_known_fans(known[x], row, len(world[1])) for x, row in enumerate(value)])


def covered_arrows(world, covers, x, mask):
    """The set of the arrows f from x for which the fan of the set behind f is one of the covers, told as sets."""
    found = []
    for f in arrows_from(world, x):
        behind = mask_of([g for g, both in enumerate(world[2][f]) if both >= 0 and mask >> both & 1])
        if behind in covers[world[1][f][1]]:
            found.append(f)
    return mask_of(found)


def is_local_at(covers, led):
    """Whether each fan is a cover if some cover has only arrows behind which it is one, as led tells for each fan."""
    for mask in led:
        if mask not in covers and any([cover & led[mask] == cover for cover in covers]):
            return False
    return True


def book_breach(world, value):
    """None for a book of covers, and otherwise the first broken rule and the least thing for which it is broken."""
    known = fan_masks(world)
    if not has_book_form(world, known, value):
        return ("form", -1)
    things = range(world[0])
    whole = [mask_of(arrows_from(world, x)) for x in things]
    covers = [{known[x][fan]: True for fan in value[x]} for x in things]
    for x in things:
        if whole[x] not in covers[x]:
            return ("whole", x)
    led = [{mask: covered_arrows(world, covers, x, mask) for mask in known[x].values()} for x in things]
    for x in things:
        if not all([led[x][mask] == whole[x] for mask in covers[x]]):
            return ("behind", x)
    for x in things:
        if not is_local_at(covers[x], led[x]):
            return ("local", x)
    return None


def ideals_of(world):
    """For each idle arrow e the set of all arrows that are a.e.b for some a and b."""
    reach = [reach_of(world, f) for f in range(len(world[1]))]
    found = {}
    for e in idle_arrows(world):
        mask = 0
        for row in world[2]:
            if row[e] >= 0:
                mask |= reach[row[e]]
        found[e] = mask
    return found


def covers_over(known, mask):
    """The known fans that have all arrows of the set, ascending."""
    return tuple([fan for fan in known if known[fan] & mask == mask])


def books_over(world, known, masks):
    """For each of the sets the book whose covers of x are the fans that have all arrows from x in the set."""
    whole = [mask_of(arrows_from(world, x)) for x in range(world[0])]
    kept = {}
    books = []
    for mask in masks:
        row = []
        for x in range(world[0]):
            key = (x, mask & whole[x])
            if key not in kept:
                kept[key] = covers_over(known[x], mask & whole[x])
            row.append(kept[key])
        books.append(tuple(row))
    return books


def shared_arrows(world, book):
    """The set of the arrows that are in all fans that the book has at the thing from which they lead."""
    return mask_of([f for f, (x, _) in enumerate(world[1]) if all([f in fan for fan in book[x]])])


def idles_in(world, mask):
    """The idle arrows in the set, ascending."""
    return tuple([e for e in idle_arrows(world) if mask >> e & 1])


def ideal_of(ideals, core):
    """The set of all arrows that are a.e.b for some e of the core."""
    mask = 0
    for e in core:
        mask |= ideals[e]
    return mask


def least_book(world, told):
    """The book with the told covers that has the fewest ones."""
    known = fan_masks(world)
    shared = shared_arrows(world, told)
    ideals = ideals_of(world)
    # Its core has all idle arrows that the told covers let.
    core = [e for e in ideals if ideals[e] & shared == ideals[e]]
    return books_over(world, known, [ideal_of(ideals, core)])[0]


def core_sets(world):
    """For each core the set of all arrows that are a.e.b for some e of it."""
    return unions_of(list(ideals_of(world).values()), None)


def all_books(world):
    """All books of covers, ascending."""
    return tuple(sorted(books_over(world, fan_masks(world), core_sets(world))))


def cores(world):
    """All cores, ascending."""
    all_fans(world)
    return tuple(sorted([idles_in(world, mask) for mask in core_sets(world)]))


def core_of(world, book):
    """The idle arrows that are in all covers of the thing from which they lead, ascending."""
    all_fans(world)
    return idles_in(world, shared_arrows(world, book))


def book_of(world, core):
    """The book whose covers of x are the fans with every a.e.b that leads from x, e in the core."""
    return books_over(world, fan_masks(world), [ideal_of(ideals_of(world), core)])[0]
