"""Numbers as sets of numbers: k stands in such a set if the bit k is set."""


def bits_of(mask):
    """The numbers that stand in the set, ascending."""
    found = []
    while mask:
        low = mask & -mask
        found.append(low.bit_length() - 1)
        mask -= low
    return found


def mask_of(numbers):
    """The set of these numbers."""
    mask = 0
    for k in numbers:
        mask |= 1 << k
    return mask


def many_in(mask):
    """How many numbers stand in the set."""
    return f"{mask:b}".count("1")
