"""Choices: a list that has for each place the set of the values that it may still take, as bits.

A place with one value left is settled.
"""

from arrowworlds.bits import many_in


def is_settled(mask):
    """Whether at most one value is left."""
    return mask & (mask - 1) == 0


def value_of(mask):
    """The value of a settled place."""
    return mask.bit_length() - 1


def narrowest(choices, places):
    """Of the places that are not settled the first one with the fewest values, or None if all are settled."""
    best, fewest = None, 0
    for k in places:
        if not is_settled(choices[k]):
            many = many_in(choices[k])
            if best is None or many < fewest:
                best, fewest = k, many
    return best


def settled_places(choices):
    """The places that have one value left."""
    return [k for k, mask in enumerate(choices) if is_settled(mask)]


def settled_at(choices, place, value):
    """The choices in which the place has this value, and all else is as before."""
    return choices[:place] + [1 << value] + choices[place + 1:]
