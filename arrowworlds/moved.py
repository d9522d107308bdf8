"""Lots moved along maps: pulled back, pushed ahead, and gathered."""

from arrowworlds.lots import MOST_AT_THING, family_rows, lot_of_choices, single, sized
from arrowworlds.partings import lead_together, root_of
from arrowworlds.worlds import between


def pulled(one, other, along, lot):
    """The lot over one that has at each thing what the lot over other has where the map takes it."""
    return (tuple([lot[0][y] for y in along[0]]), tuple([lot[1][g] for g in along[1]]))


def pushed_triples(one, other, along, lot):
    """The triples (x, f, k) of a thing, an arrow from where it is taken and an element at it, ascending."""
    pairs = [(x, f) for x in range(one[0]) for f, (start, _) in enumerate(other[1]) if start == along[0][x]]
    return [(x, f, k) for x, f in pairs for k in range(lot[0][x])]


def least_triples(one, other, along, lot, triples):
    """For each of the triples the least one of its part."""
    leads = list(range(len(triples)))
    starts = {(x, f): at for at, (x, f, k) in enumerate(triples) if k == 0}
    for g in range(one[0], len(one[1])):
        x, z = one[1][g]
        for f, both in enumerate(other[2][along[1][g]]):
            if both >= 0:
                for k, moved in enumerate(lot[1][g]):
                    lead_together(leads, starts[(x, both)] + k, starts[(z, f)] + moved)
    return {triple: triples[root_of(leads, at)] for at, triple in enumerate(triples)}


def pushed(one, other, along, lot):
    """The lot over other whose elements are the parts of the triples."""
    triples = pushed_triples(one, other, along, lot)
    least = least_triples(one, other, along, lot, triples)
    rows = [[] for _ in range(other[0])]
    for triple in triples:
        if least[triple] == triple:
            rows[other[1][triple[1]][1]].append(triple)
    sizes = sized([len(row) for row in rows])
    places = {triple: k for row in rows for k, triple in enumerate(row)}
    moves = []
    for h, (y, _) in enumerate(other[1]):
        moves.append(tuple([places[least[(x, other[2][f][h], k)]] for x, f, k in rows[y]]))
    return (sizes, tuple(moves))


def asked_pairs(one, other, along, y):
    """The pairs (x, f) of a thing and an arrow from y to where it is taken, ascending."""
    return [(x, f) for x in range(one[0]) for f in between(other, y, along[0][x])]


def choices_at(one, other, along, lot, y):
    """The choices of an element for each pair, ascending; raises TooMany(40) if there are more.

    They are the families to the lot from the single lot of y, pulled back.
    """
    return family_rows(one, pulled(one, other, along, single(other, y)), lot, MOST_AT_THING)


def gathered(one, other, along, lot):
    """The lot over other whose elements are the choices."""
    things = range(other[0])
    rows = [choices_at(one, other, along, lot, y) for y in things]
    keys = [asked_pairs(one, other, along, y) for y in things]
    return lot_of_choices(other, keys, rows, lambda h, pair: (pair[0], other[2][h][pair[1]]))
