"""Ways along the roads of a web, and the worlds that they make."""

from arrowworlds.errors import TooMany
from arrowworlds.making import check_sizes, listed_arrows, made_world
from arrowworlds.partings import put_together
from arrowworlds.replacing import steps_from

MOST_WAYS = 200


def end_of(web, way):
    """The thing to which a way leads."""
    x, word = way
    return web[1][word[-1]][1] if word else x


def gone_on(web, way):
    """The ways that go on along one more road."""
    x, word = way
    at = end_of(web, way)
    return [(x, word + (r,)) for r, road in enumerate(web[1]) if road[0] == at]


def ways(web):
    """All ways, ordered by ends, number of roads and word; raises TooMany(200) if there are more."""
    found = []
    waiting = [(x, ()) for x in range(web[0])]
    while waiting:
        way = waiting.pop()
        found.append(way)
        if len(found) > MOST_WAYS:
            raise TooMany(MOST_WAYS)
        waiting.extend(gone_on(web, way))
    ordered = sorted([(way[0], end_of(web, way), len(way[1]), way[1]) for way in found])
    return tuple([(row[0], row[3]) for row in ordered])


def least_ways(web, equals):
    """For each way the least one of those that are equal to it.

    Equal ways have the same ends, so the first one in the sequence of ways is the least.
    """
    every = ways(web)
    place = {way: k for k, way in enumerate(every)}
    least = list(range(len(every)))
    for k, (x, word) in enumerate(every):
        for _, more in steps_from(equals, word):
            low, high = least[k], least[place[(x, more)]]
            if low != high:
                least = put_together(least, low, high)
    return {way: every[least[k]] for way, k in place.items()}


def least_way(web, equals, way):
    """The least one of the ways that are equal to the way."""
    return least_ways(web, equals)[way]


def way_name(way):
    """The name of a way as an arrow: the number of its roads and behind it the word."""
    return (len(way[1]),) + way[1]


def way_stills(web):
    """The ways without a road, told as arrows by their names."""
    return [((x,), (x,), (0,)) for x in range(web[0])]


def way_arrows(web, every):
    """Ways as arrows, told by their names."""
    return [((way[0],), (end_of(web, way),), way_name(way)) for way in every]


def told_arrows(web, least):
    """The arrows of the told world in the sequence of their numbers."""
    arrows = way_arrows(web, [way for way in least if least[way] == way])
    check_sizes(web[0], len(arrows))
    return listed_arrows(way_stills(web), arrows)


def way_world(web, least):
    """The world whose arrows are the ways that are least, put behind one another."""
    things = [(x,) for x in range(web[0])]
    arrows = way_arrows(web, [way for way in least if least[way] == way])

    def then(first, second):
        return way_name(least[(first[0][0], first[2][1:] + second[2][1:])])

    return made_world(things, way_stills(web), arrows, then)


def free_world(web):
    """The world whose arrows are the ways, put behind one another."""
    return way_world(web, {way: way for way in ways(web)})


def told_world(web, equals):
    """The world whose arrows are the ways, equal ones taken as one."""
    return way_world(web, least_ways(web, equals))
