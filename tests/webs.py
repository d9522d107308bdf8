"""Webs for the tests of ways, and what the words of the document make of them."""

import random

PARALLEL = (2, ((0, 1), (0, 1)))
WEB = (3, ((1, 2), (0, 1), (0, 1)))
STAGES = (4, ((0, 1), (0, 1), (1, 2), (1, 2), (2, 3), (2, 3)))
LONGER = (4, ((0, 3), (0, 3), (0, 1), (1, 2), (2, 3)))
JUST_200 = (8, ((0, 1), (1, 2), (2, 3), (2, 3), (2, 3), (3, 4), (3, 4), (3, 5), (4, 5), (5, 6), (5, 6), (6, 7)))
MORE_201 = (8, ((0, 1), (1, 2), (2, 3), (2, 4), (3, 4), (3, 4), (4, 5), (4, 5), (5, 6), (5, 6), (6, 7), (6, 7)))


def end_of(web, way):
    at = way[0]
    for r in way[1]:
        at = web[1][r][1]
    return at


def random_web(rng):
    n = rng.randrange(1, 6)
    roads = []
    for _ in range(rng.randrange(0, 8) if n > 1 else 0):
        x = rng.randrange(n - 1)
        roads.append((x, rng.randrange(x + 1, min(n, x + 3))))
    return (n, tuple(roads))


WEBS = [random_web(random.Random(seed)) for seed in range(40)] + [PARALLEL, WEB, STAGES, LONGER]


def ways_from(web, x):
    found = [(x, ())]
    for way in found:
        found += [(x, way[1] + (r,)) for r, road in enumerate(web[1]) if road[0] == end_of(web, way)]
    return found


def all_ways(web):
    return [way for x in range(web[0]) for way in ways_from(web, x)]


def neighbours(equals, word):
    """The words that one replacing makes of a word."""
    found = set()
    for pair in equals:
        for old, new in (pair, pair[::-1]):
            for place in range(len(word) - len(old) + 1):
                if word[place:place + len(old)] == old:
                    found.add(word[:place] + new + word[place + len(old):])
    return found


def equal_words(equals, word):
    found = {word}
    waiting = [word]
    while waiting:
        for more in neighbours(equals, waiting.pop()) - found:
            found.add(more)
            waiting.append(more)
    return found


def some_equals(web, seed):
    """Some pairs of words of the web with the same ends."""
    rng = random.Random(seed)
    every = [way for way in all_ways(web) if way[1]]
    pairs = [(one[1], other[1]) for one in every for other in every
             if (one[0], end_of(web, one)) == (other[0], end_of(web, other)) and one != other]
    return tuple(rng.sample(pairs, min(len(pairs), rng.randrange(0, 4))))


def classes_by_words(web):
    """For some tuples equals: for each way the words of all ways that are equal to it."""
    made = {}
    for seed in range(3):
        equals = some_equals(web, seed)
        made[equals] = {way: equal_words(equals, way[1]) for way in all_ways(web)}
    return made
