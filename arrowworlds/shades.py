"""Shades of arrows: what any copy of a world keeps of each arrow.

They tell beforehand which arrows can't go to one another, so that the search for copies
does not lose its way in worlds with many arrows that are nearly alike.
"""


def sameness(f, g, ahead, back):
    """A number that tells what is one among f, g, f and then g (ahead), and g and then f (back)."""
    pairs = ((f, g), (ahead, f), (ahead, g), (back, f), (back, g), (ahead, back))
    return sum([2 ** k for k in range(6) if pairs[k][0] == pairs[k][1]])


def sameness_table(table):
    """The sameness of each two arrows."""
    arrows = range(len(table))
    return [[sameness(f, g, table[f][g], table[g][f]) for g in arrows] for f in arrows]


def sign_of(table, same, shades, f):
    """The shade of f, and what it makes with the arrows of each shade."""
    met = []
    for g, ahead in enumerate(table[f]):
        back = table[g][f]
        first = shades[ahead] if ahead >= 0 else -1
        second = shades[back] if back >= 0 else -1
        met.append((shades[g], same[f][g], first, second))
    return (shades[f], tuple(sorted(met)))


def ranks_of(signs):
    """For each sign its number among the unlike ones, ascending."""
    number = {sign: k for k, sign in enumerate(sorted(set(signs)))}
    return [number[sign] for sign in signs]


def last_signs(table, same, shades):
    """The signs of all arrows, once arrows of one shade have one sign."""
    signs = [sign_of(table, same, shades, f) for f in range(len(table))]
    while len(set(signs)) > len(set(shades)):
        shades = ranks_of(signs)
        signs = [sign_of(table, same, shades, f) for f in range(len(table))]
    return signs


def portrait(table, same, shades, f):
    """The shade of f, and the signs of all arrows once f alone has a shade of its own."""
    marked = [2 * shade + 1 if g == f else 2 * shade for g, shade in enumerate(shades)]
    return (shades[f], tuple(sorted(last_signs(table, same, marked))))


def portraits(world):
    """For each arrow a tuple that is one for arrows that some copy takes to one another."""
    n, ends, table = world
    same = sameness_table(table)
    shades = ranks_of(last_signs(table, same, [0 if f < n else 1 for f in range(len(ends))]))
    return [portrait(table, same, shades, f) for f in range(len(ends))]


def alike_arrows(one, other):
    """For each arrow of one the arrows of other that some copy might take it to.

    Where both do not have as many of each sort there is no copy, which the search
    would find out only behind all ways to lead the other sorts.
    """
    ours, theirs = portraits(one), portraits(other)
    if sorted(ours) != sorted(theirs):
        return [[] for _ in ours]
    found = {}
    for g, told in enumerate(theirs):
        found.setdefault(told, []).append(g)
    return [found[told] for told in ours]
