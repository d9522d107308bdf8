"""Numbers as sets of numbers: k stands in such a set if the bit k is set."""

from arrowworlds.errors import TooMany


def bits_of(mask):
    """The numbers that stand in the set, ascending."""
    found = []
    while mask:
        low = mask & -mask
        found.append(low.bit_length() - 1)
        mask -= low
    return found


def mask_of(numbers):
    """The set of these numbers."""
    mask = 0
    for k in numbers:
        mask |= 1 << k
    return mask


def many_in(mask):
    """How many numbers stand in the set."""
    return f"{mask:b}".count("1")


def unions_of(masks, most):
    """All sets that are put together of some of these sets, perhaps none; raises TooMany if they are more than most.

    None for most lets any number.
    """
    found = {0: True}
    for mask in masks:
        if mask not in found:
            more = [mask | other for other in found]
            found.update({both: True for both in more})
            if most is not None and len(found) > most:
                raise TooMany(most)
    return list(found)
