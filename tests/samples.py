"""Worlds and helpers for the tests.

A world is written out here by its ends and by what its arrows that are not still make,
so that the numbers of things and arrows stand in the tests as they are expected.
"""

import itertools
import random
import time

from arrowworlds import errors, maps


def hand(n, ends, made=None):
    """The world of n things; ends: those of the arrows that are not still; made: {(f, g): f.g} for these."""
    every = [(k, k) for k in range(n)] + list(ends)
    given = dict(made or {})
    table = []
    for f, (x, y) in enumerate(every):
        row = []
        for g, (z, _) in enumerate(every):
            if y != z:
                row.append(-1)
            elif f < n:
                row.append(g)
            elif g < n:
                row.append(f)
            else:
                row.append(given.pop((f, g)))
        table.append(tuple(row))
    assert not given, given
    return (n, tuple(every), tuple(table))


def loops(rows):
    """The world of one thing with this table, written without the package."""
    return (1, tuple((0, 0) for _ in rows), tuple(tuple(row) for row in rows))


def ring(k):
    """One thing whose arrows add up modulo k."""
    return loops([[(a + b) % k for b in range(k)] for a in range(k)])


def band(k):
    """One thing; of two arrows that are not still the first one is what both make."""
    return loops([[b if a == 0 else a for b in range(k)] for a in range(k)])


def null(k):
    """One thing; any two arrows that are not still make the arrow 1."""
    return loops([[a + b if 0 in (a, b) else 1 for b in range(k)] for a in range(k)])


def graph(many, edges):
    """One thing; two arrows of 3, .. make the arrow 2 where an edge joins them, all else makes the arrow 1."""
    linked = set(edges) | {(b, a) for a, b in edges}

    def made(a, b):
        if 0 in (a, b):
            return a + b
        return 2 if (a - 3, b - 3) in linked else 1

    return loops([[made(a, b) for b in range(many + 3)] for a in range(many + 3)])


def cycles(lengths, places=None):
    """The graph world of cycles with these lengths; places renumber its points."""
    edges = []
    start = 0
    for long in lengths:
        edges += [(start + k, start + (k + 1) % long) for k in range(long)]
        start += long
    places = places or list(range(start))
    return graph(start, [(places[a], places[b]) for a, b in edges])


EMPTY = (0, (), ())
POINT = hand(1, [])
TWO = hand(2, [])
CHAIN2 = hand(2, [(0, 1)])
CHAIN3 = hand(3, [(0, 1), (0, 2), (1, 2)], {(3, 5): 4})
# Two arrows from 0 to 1.
FORK = hand(2, [(0, 1), (0, 1)])
# 2 and 3 turn one another back.
BACK = hand(2, [(0, 1), (1, 0)], {(2, 3): 0, (3, 2): 1})
# The idle arrow 2 at the thing 0 splits over the thing 1 by the arrows 3 and 4.
SPLIT = hand(2, [(0, 0), (0, 1), (1, 0)],
             {(2, 2): 2, (2, 3): 3, (3, 4): 2, (4, 2): 4, (4, 3): 1})
# One idle arrow beside the still one.
IDLE = loops([[0, 1], [1, 1]])
# The arrow 3 does what the arrow 2 does, once the arrow 4 follows it.
EQUALIZED = hand(3, [(0, 1), (0, 1), (0, 2), (1, 2)], {(3, 6): 5, (4, 6): 5})
APART8 = hand(8, [])
SMALL = (EMPTY, POINT, TWO, CHAIN2, CHAIN3, FORK, BACK, SPLIT, IDLE, EQUALIZED, ring(2), ring(3), band(3), null(3))


def random_worlds(seed, many, most=12):
    """Worlds of sets and of functions between them, with at most so many arrows."""
    rng = random.Random(seed)
    found = []
    while len(found) < many:
        world = function_world(rng, most)
        if world is not None:
            found.append(world)
    return found


def function_world(rng, most):
    """A world of some functions and all that they make, or None if they make too many."""
    sizes = [rng.randrange(1, 4) for _ in range(rng.randrange(1, 5))]
    things = range(len(sizes))
    stills = [(x, x, tuple(range(sizes[x]))) for x in things]
    arrows = list(stills)
    for _ in range(rng.randrange(1, 6)):
        x, y = rng.choice(things), rng.choice(things)
        arrows.append((x, y, tuple(rng.randrange(sizes[y]) for _ in range(sizes[x]))))
    arrows = list(dict.fromkeys(arrows))
    grown = True
    while grown:
        grown = False
        for f in list(arrows):
            for g in list(arrows):
                if f[1] == g[0] and both(f, g) not in arrows:
                    arrows.append(both(f, g))
                    grown = True
        if len(arrows) > most:
            return None
    rest = [f for f in arrows if f not in stills]
    rng.shuffle(rest)
    listed = stills + rest
    table = tuple(tuple(listed.index(both(f, g)) if f[1] == g[0] else -1 for g in listed) for f in listed)
    return (len(sizes), tuple((f[0], f[1]) for f in listed), table)


def both(f, g):
    return (f[0], g[1], tuple(g[2][k] for k in f[2]))


def is_plain(value):
    """Whether a returned value is made of integers, strings, True, False, None and tuples alone."""
    if type(value) is tuple:
        return all(is_plain(entry) for entry in value)
    return value is None or type(value) in (int, str, bool)


def raised(function, *arguments):
    """The class of the error that a call raises, and its attributes."""
    try:
        function(*arguments)
    except errors.WorldError as e:
        told = vars(e)
        return (type(e), told)
    return None


def is_map(one, other, p, q):
    """Whether (p, q), of the right form, is a map from one to other, told by the words of [14]."""
    if any(q[x] != p[x] for x in range(one[0])):
        return False
    if any(other[1][q[f]] != (p[x], p[y]) for f, (x, y) in enumerate(one[1])):
        return False
    arrows = range(len(one[1]))
    return all(q[one[2][f][g]] == other[2][q[f]][q[g]] for f in arrows for g in arrows if one[2][f][g] >= 0)


def all_maps(one, other):
    """All maps from one to other, found by trying out all tuples of arrows with the right ends."""
    found = []
    for p in itertools.product(range(other[0]), repeat=one[0]):
        rest = [[g for g, pair in enumerate(other[1]) if pair == (p[x], p[y])] for x, y in one[1][one[0]:]]
        for q in itertools.product(*rest):
            if is_map(one, other, p, p + q):
                found.append((p, p + q))
    return tuple(sorted(found))


def all_copies(one, other):
    """All maps that take things one to one to all things, and arrows likewise."""
    if one[0] != other[0] or len(one[1]) != len(other[1]):
        return ()
    found = []
    for p in itertools.permutations(range(one[0])):
        for q in itertools.permutations(range(one[0], len(one[1]))):
            if is_map(one, other, p, p + q):
                found.append((p, p + q))
    return tuple(sorted(found))


def shuffled(world, seed):
    """A copy of the world with other numbers, and the map to it."""
    rng = random.Random(seed)
    n, ends, table = world
    p = rng.sample(range(n), n)
    q = p + rng.sample(range(n, len(ends)), len(ends) - n)
    back = [q.index(k) for k in range(len(q))]
    other = [(p[ends[k][0]], p[ends[k][1]]) for k in back]
    rows = [tuple(-1 if table[f][g] < 0 else q[table[f][g]] for g in back) for f in back]
    return (n, tuple(other), tuple(rows)), (tuple(p), tuple(q))


WRONG_VALUES = (None, True, False, 0, 1, -1, 1.0, "", "0", b"", [], {}, set(), frozenset(), range(1), object(), int)


def check_calls(case, function, arguments):
    """Check that names in another sequence do as places do, that arguments stay, and what is returned."""
    before = repr(arguments)
    names = list(arguments)
    by_place = function(*[arguments[name] for name in names])
    by_name = function(**{name: arguments[name] for name in reversed(names)})
    case.assertEqual(by_place, by_name)
    case.assertTrue(is_plain(by_place), by_place)
    case.assertEqual(before, repr(arguments))


def named_world(things, stills, arrows, then):
    """The world with these names, numbered as [2] tells; arrows are triples of names, then tells the name of both."""
    ordered = sorted(things)
    others = sorted((ordered.index(a), ordered.index(b), name) for a, b, name in arrows if (a, b, name) not in stills)
    listed = [(a, b, name) for thing in ordered for a, b, name in stills if a == thing]
    listed += [(ordered[a], ordered[b], name) for a, b, name in others]
    table = tuple(tuple(listed.index((f[0], g[1], then(f[2], g[2]))) if f[1] == g[0] else -1 for g in listed)
                  for f in listed)
    return (len(ordered), tuple((ordered.index(f[0]), ordered.index(f[1])) for f in listed), table)


def between_by_words(world, x, y):
    return [f for f, pair in enumerate(world[1]) if pair == (x, y)]


def turnable_by_words(world):
    """The turnable arrows of the world."""
    arrows, stills = range(len(world[1])), range(world[0])
    return [f for f in arrows if any(world[2][f][g] in stills and world[2][g][f] in stills for g in arrows)]


def families_by_words(one, other, first, second):
    """All families, found by trying out all rows of arrows with the right ends."""
    choices = [between_by_words(other, first[0][x], second[0][x]) for x in range(one[0])]
    return tuple(a for a in itertools.product(*choices) if is_family_by_words(one, other, first, second, a))


def is_family_by_words(one, other, first, second, a):
    return all(other[2][first[1][f]][a[y]] == other[2][a[x]][second[1][f]] for f, (x, y) in enumerate(one[1]))


def drawn_maps(rng, one, other, many):
    """Some of the maps from one to other, none if there are more than 1000."""
    try:
        found = maps.maps_between(one, other)
    except errors.TooMany:
        return []
    return [rng.choice(found) for _ in range(many if found else 0)]


def with_others(value):
    """The value with one entry, however deep, left out, doubled, put in or exchanged for a value of another kind."""
    yield from WRONG_VALUES
    if type(value) is tuple:
        yield list(value)
        yield value + (0,)
        yield value + ((),)
        for k, entry in enumerate(value):
            yield value[:k] + value[k + 1:]
            yield value[:k + 1] + value[k:]
            for more in with_others(entry):
                yield value[:k] + (more,) + value[k + 1:]
    elif type(value) is int:
        yield from (-1, -2, 41, 10 ** 30, (value,), [value], bool(value))


def seconds(function, *arguments):
    """How long a call takes, whether it raises an error of the package or not."""
    start = time.perf_counter()
    raised(function, *arguments)
    return time.perf_counter() - start
