"""Partings: numbers put together to parts, each part told by its least number."""


def put_together(least, one, other):
    """The parting in which the parts with these least numbers are one."""
    low, high = min(one, other), max(one, other)
    return [low if part == high else part for part in least]


def parts_told(least):
    """The parts as an ascending tuple of ascending tuples."""
    return tuple([tuple([k for k, part in enumerate(least) if part == low]) for low in sorted(set(least))])


def root_of(leads, k):
    """The least number of the part of k, in a list that leads each number to a lesser one of its part or to itself."""
    while leads[k] != k:
        leads[k] = leads[leads[k]]
        k = leads[k]
    return k


def lead_together(leads, one, other):
    """Make the parts of both numbers one part of the list, as in root_of."""
    first, second = root_of(leads, one), root_of(leads, other)
    if first < second:
        leads[second] = first
    else:
        leads[first] = second
