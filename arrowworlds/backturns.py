"""Kinds of arrows that let fractions, and worlds in which the arrows of a kind turn back."""

from arrowworlds.arrows import back_of
from arrowworlds.bits import mask_of
from arrowworlds.errors import NotFractions
from arrowworlds.making import check_sizes, listed_arrows, made_world, places_of
from arrowworlds.partings import lead_together, root_of


def then_breach(world, kind):
    """The breach for the least pair of arrows of the kind that make none of it, or None."""
    for f in kind:
        for g in kind:
            both = world[2][f][g]
            if both >= 0 and both not in kind:
                return ("then", f, g)
    return None


def square_breach(world, kind):
    """The breach for the least pair of an arrow of the kind and an arrow that none lead on to one arrow, or None."""
    ends, table = world[1], world[2]
    ahead = [mask_of([both for both in row if both >= 0]) for row in table]
    by_kind = [mask_of([row[w] for w in kind if row[w] >= 0]) for row in table]
    for w in kind:
        for f, (x, _) in enumerate(ends):
            if x == ends[w][0] and ahead[w] & by_kind[f] == 0:
                return ("square", w, f)
    return None


def is_cancelled(world, kind, f, g):
    """Whether some arrow of the kind that follows f and g makes one arrow with them."""
    return any([world[2][f][w] == world[2][g][w] >= 0 for w in kind])


def cancel_breach(world, kind):
    """The breach for the least triple of an arrow of the kind and two that it makes one though none cancels them."""
    ends, table = world[1], world[2]
    arrows = range(len(ends))
    pairs = [(f, g) for f in arrows for g in arrows if f < g and ends[f] == ends[g]]
    loose = [(f, g) for f, g in pairs if not is_cancelled(world, kind, f, g)]
    for w in kind:
        for f, g in loose:
            if table[w][f] == table[w][g] >= 0:
                return ("cancel", w, f, g)
    return None


def fraction_breach(world, kind):
    """None if the kind lets fractions, and otherwise the first breach."""
    for x in range(world[0]):
        if x not in kind:
            return ("still", x)
    breach = then_breach(world, kind)
    if breach is None:
        breach = square_breach(world, kind)
    if breach is None:
        breach = cancel_breach(world, kind)
    return breach


def turnable_kind(world):
    """The kind of all turnable arrows."""
    return tuple([f for f in range(len(world[1])) if back_of(world, f) is not None])


def least_fractions(world, kind):
    """For each pair of an arrow and one of the kind, both to one thing, the least of its part; raises NotFractions."""
    if fraction_breach(world, kind) is not None:
        raise NotFractions("the kind does not let fractions")
    ends, table = world[1], world[2]
    pairs = [(f, w) for f, (_, z) in enumerate(ends) for w in kind if ends[w][1] == z]
    numbers = {pair: k for k, pair in enumerate(pairs)}
    leads = list(range(len(pairs)))
    for f, w in pairs:
        for h, both in enumerate(table[f]):
            if both >= 0 and (both, table[w][h]) in numbers:
                lead_together(leads, numbers[(f, w)], numbers[(both, table[w][h])])
    return {pair: pairs[root_of(leads, k)] for pair, k in numbers.items()}


def fraction_arrow(world, pair):
    """The arrow that the least pair (f, w) of a part is, told by its names: from where f leads from to where w does."""
    f, w = pair
    return ((world[1][f][0],), (world[1][w][0],), pair)


def fraction_stills(world, least):
    """The still arrows of the world turned back, told by their names."""
    return [((x,), (x,), least[(x, x)]) for x in range(world[0])]


def fraction_arrows(world, least):
    """All arrows of the world turned back, told by their names."""
    return [fraction_arrow(world, pair) for pair in least if least[pair] == pair]


def leading_on(world, kind, w, g):
    """An arrow and an arrow of the kind, the one behind w and the other behind g, that make one arrow with them."""
    ahead = {both: h for h, both in enumerate(world[2][w]) if both >= 0}
    for v in kind:
        both = world[2][g][v]
        if both in ahead:
            return (ahead[both], v)
    return None


def turned_back(world, kind):
    """The world with the same things in which the arrows of the kind turn back; raises NotFractions."""
    least = least_fractions(world, kind)
    table = world[2]

    def then(first, second):
        f, w = first[2]
        g, v = second[2]
        h, u = leading_on(world, kind, w, g)
        return least[(table[f][h], table[v][u])]

    things = [(x,) for x in range(world[0])]
    return made_world(things, fraction_stills(world, least), fraction_arrows(world, least), then)


def into_turned_back(world, kind):
    """The map to the world turned back that takes each thing to itself and each arrow to its part."""
    least = least_fractions(world, kind)
    arrows = fraction_arrows(world, least)
    check_sizes(world[0], len(arrows))
    places = places_of(listed_arrows(fraction_stills(world, least), arrows))
    images = [least[(f, y)] for f, (_, y) in enumerate(world[1])]
    return (tuple(range(world[0])), tuple([places[fraction_arrow(world, pair)] for pair in images]))


def kept_kind(world, kind):
    """The kind of all arrows that the map to the world turned back takes to turnable ones."""
    back = turned_back(world, kind)
    images = into_turned_back(world, kind)[1]
    return tuple([f for f, g in enumerate(images) if back_of(back, g) is not None])
