"""Single arrows: which of them turn back, are sure, wide or idle."""


def back_of(world, f):
    """The arrow that f and it, in both sequences, make still arrows with, or None."""
    n, ends, table = world
    for g in range(len(ends)):
        if 0 <= table[f][g] < n and 0 <= table[g][f] < n:
            return g
    return None


def are_all_unlike(numbers):
    """Whether no number stands twice among them."""
    return len(set(numbers)) == len(numbers)


def is_sure(world, f):
    """Whether any two arrows that f follows and that make one with it are one."""
    return are_all_unlike([row[f] for row in world[2] if row[f] >= 0])


def is_wide(world, f):
    """Whether any two arrows that follow f and make one with it are one."""
    return are_all_unlike([both for both in world[2][f] if both >= 0])


def is_idle(world, f):
    """Whether f and then f is f."""
    return world[2][f][f] == f
