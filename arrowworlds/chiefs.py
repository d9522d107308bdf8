"""The chief arrows of a world: those that tell where all others go."""


def made_arrows(world):
    """The arrows that two others make, as the keys of a dict; still arrows don't count as such."""
    n, ends, table = world
    made = {}
    for f in range(n, len(ends)):
        for g in range(n, len(ends)):
            if table[f][g] not in (-1, f, g):
                made[table[f][g]] = True
    return made


def reached_with(world, reached, fresh):
    """What the arrow fresh makes with reached arrows, again and again, together with these."""
    table = world[2]
    rows = {f: True for f in reached}
    waiting = [fresh]
    while waiting:
        f = waiting.pop()
        if f not in rows:
            rows[f] = True
            for g in rows:
                waiting.extend([both for both in (table[f][g], table[g][f]) if both >= 0 and both not in rows])
    return list(rows)


def partners(world, f):
    """The number of arrows that follow f or that f follows."""
    x, y = world[1][f]
    return len([g for g, (z, w) in enumerate(world[1]) if z == y or w == x])


def chiefs_of(world):
    """The still arrows, and some others of which all arrows are made.

    Those that no two others make are taken first, and those with the most partners
    stand first: so fewer dead ends are found late.
    """
    n, ends = world[0], world[1]
    made = made_arrows(world)
    others = range(n, len(ends))
    reached = list(range(n))
    chiefs = []
    for f in [g for g in others if g not in made] + [g for g in others if g in made]:
        if f not in reached:
            chiefs.append((-partners(world, f), f))
            reached = reached_with(world, reached, f)
    return list(range(n)) + [f for _, f in sorted(chiefs)]
