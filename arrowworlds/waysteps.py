"""Rules and steps that lead from ways to equal ways, and maps from told worlds."""

from arrowworlds.errors import NotKept, NotSteps
from arrowworlds.kinds import is_number, is_row
from arrowworlds.replacing import replaced, steps_from
from arrowworlds.ways import least_ways, told_arrows, ways


def is_rule_side(web, least, way):
    """Whether a way is not least, but is least without its first road, and without its last one."""
    x, word = way
    if least[way] == way:
        return False
    second = web[1][word[0]][1]
    rests = ((second, word[1:]), (x, word[:-1]))
    return all([least[rest] == rest for rest in rests])


def way_rules(web, equals):
    """The pairs of a word that is just not least and the least word that is equal to it."""
    least = least_ways(web, equals)
    sides = [way for way in least if is_rule_side(web, least, way)]
    ordered = sorted([(len(way[1]), way[1], least[way][1]) for way in sides])
    return tuple([(row[1], row[2]) for row in ordered])


def origins(equals, start):
    """For each word equal to start the word and the step from which it was reached first."""
    origin = {start: None}
    row = [start]
    while row:
        reached = []
        for old in row:
            for step, new in steps_from(equals, old):
                if new not in origin:
                    origin[new] = (old, step)
                    reached.append(new)
        row = reached
    return origin


def way_steps(web, equals, one, other):
    """The fewest steps that lead from the one way to the other one, or None if they are not equal."""
    # Only for its error, which comes ahead of all else.
    ways(web)
    origin = origins(equals, one[1])
    if one[0] != other[0] or other[1] not in origin:
        return None
    steps = []
    word = other[1]
    while origin[word] is not None:
        word, step = origin[word]
        steps.append(step)
    return tuple(reversed(steps))


def word_behind(equals, word, step):
    """The word behind any value as a step, or None if it is no step from this word."""
    if not is_row(step, 3):
        return None
    place, k, sense = step
    if not is_number(place, 0, len(word)) or not is_number(k, 0, len(equals) - 1) or not is_number(sense, 0, 1):
        return None
    return replaced(word, place, equals[k][sense], equals[k][1 - sense])


def stepped(web, equals, way, steps):
    """The way behind the steps, which may be any value; raises NotSteps."""
    # Only for its error, which comes ahead of all else.
    ways(web)
    if type(steps) is not tuple:
        raise NotSteps(-1)
    word = way[1]
    for place, step in enumerate(steps):
        word = word_behind(equals, word, step)
        if word is None:
            raise NotSteps(place)
    return (way[0], word)


def arrow_along(web, other, things, arrows, word):
    """The arrow of other that a word of at least one road goes to, road by road."""
    both = things[web[1][word[0]][0]]
    for r in word:
        both = other[2][both][arrows[r]]
    return both


def check_kept(web, equals, other, things, arrows):
    """Raise NotKept if a road has wrong ends, or if two equal words go to unlike arrows."""
    for r, (x, y) in enumerate(web[1]):
        if other[1][arrows[r]] != (things[x], things[y]):
            raise NotKept(-1)
    for k, (u, v) in enumerate(equals):
        first = arrow_along(web, other, things, arrows, u)
        if first != arrow_along(web, other, things, arrows, v):
            raise NotKept(k)


def told_map(web, equals, other, things, arrows):
    """The map from the told world that takes x to things[x] and each road to its arrow."""
    least = least_ways(web, equals)
    check_kept(web, equals, other, things, arrows)
    listed = told_arrows(web, least)
    rest = [arrow_along(web, other, things, arrows, arrow[2][1:]) for arrow in listed[web[0]:]]
    return (tuple(things), tuple(things) + tuple(rest))
