"""Partings: numbers put together to parts, each part told by its least number."""


def put_together(least, one, other):
    """The parting in which the parts with these least numbers are one."""
    low, high = min(one, other), max(one, other)
    return [low if part == high else part for part in least]


def parts_told(least):
    """The parts as an ascending tuple of ascending tuples."""
    return tuple([tuple([k for k, part in enumerate(least) if part == low]) for low in sorted(set(least))])
