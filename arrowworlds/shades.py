"""Shades of arrows: what any copy of a world keeps of each arrow.

They tell beforehand which arrows can't go to one another, so that the search for copies
does not lose its way in worlds with many arrows that are nearly alike.
"""

from arrowworlds.bits import mask_of

# Above all numbers that stand for a sameness or a shade.
STEP = 128


def sameness(f, g, ahead, back):
    """A number that tells what is one among f, g, f and then g (ahead), and g and then f (back)."""
    found = 1 if f == g else 0
    if ahead == f:
        found += 2
    if ahead == g:
        found += 4
    if back == f:
        found += 8
    if back == g:
        found += 16
    return found + 32 if ahead == back else found


def met_arrows(table, f):
    """For each arrow g what is one among f and g, g itself, f and then g, and g and then f."""
    row = table[f]
    return [(sameness(f, g, row[g], back[f]), g, row[g], back[f]) for g, back in enumerate(table)]


def signs_of(met, shades):
    """For each arrow its shade, and what it makes with the arrows of each shade."""
    first = [STEP * shade for shade in shades]
    # The last entries stand for no arrow, which is -1.
    second = [STEP * part for part in first] + [STEP * STEP * (STEP - 1)]
    third = [STEP * part for part in second]
    rows = [sorted([same + first[g] + second[a] + third[b] for same, g, a, b in row]) for row in met]
    return [(shades[f], tuple(row)) for f, row in enumerate(rows)]


def ranks_of(signs):
    """For each sign its number among the unlike ones, ascending."""
    number = {sign: k for k, sign in enumerate(sorted(set(signs)))}
    return [number[sign] for sign in signs]


def last_signs(met, shades):
    """The signs of all arrows, once arrows of one shade have one sign."""
    signs = signs_of(met, shades)
    while len(set(signs)) > len(set(shades)):
        shades = ranks_of(signs)
        signs = signs_of(met, shades)
    return signs


def portrait(met, shades, f):
    """The shade of f, and the signs of all arrows once f alone has a shade of its own."""
    marked = [2 * shade + 1 if g == f else 2 * shade for g, shade in enumerate(shades)]
    return (shades[f], tuple(sorted(last_signs(met, marked))))


def traits_of(world, sharp):
    """For each arrow a tuple that is one for arrows that some copy takes to one another.

    The sharp ones tell more arrows apart and take longer.
    """
    n, ends, table = world
    arrows = range(len(ends))
    met = [met_arrows(table, f) for f in arrows]
    signs = last_signs(met, [0 if f < n else 1 for f in arrows])
    if not sharp:
        return signs
    shades = ranks_of(signs)
    return [portrait(met, shades, f) for f in arrows]


def alike_arrows(ours, theirs):
    """For each of our arrows the set of those of theirs that some copy might take it to, told by their traits.

    Where both do not have as many of each sort there is no copy, which the search
    would find out only behind all ways to lead the other sorts.
    """
    if sorted(ours) != sorted(theirs):
        return [0 for _ in ours]
    found = {}
    for g, told in enumerate(theirs):
        found.setdefault(told, []).append(g)
    return [mask_of(found[told]) for told in ours]
