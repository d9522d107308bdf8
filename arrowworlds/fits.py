"""The search for the fitting choices of a lot over a world.

A choice for a fan is told by its entries at the roots of the fan: arrows of it that make
all others, none of them another one. Which entries stand beside one another is worked out
once for each two arrows, so that many fans can be asked about.
"""

from arrowworlds.bits import bits_of, mask_of
from arrowworlds.choosing import Choosing
from arrowworlds.truths import reach_of


class FitSearch:
    """Finds and counts fitting choices; it need not go on behind more than most of them."""

    def __init__(self, world, lot, most):
        self.world = world
        self.lot = lot
        self.most = most
        self.reach = [reach_of(world, f) for f in range(len(world[1]))]
        self.known = {}
        self.lets = {}

    def roots_of(self, arrows):
        """Some of the arrows that make all others, none of them another one."""
        found = []
        made = 0
        for f in arrows:
            if made >> f & 1 == 0:
                found = [root for root in found if self.reach[f] >> root & 1 == 0] + [f]
                made |= self.reach[f]
        return found

    def entries_at(self, f):
        """What the elements give at each arrow that f makes if they stand at f, and the set of those that may."""
        if f not in self.known:
            rows = {}
            mask = (1 << self.lot[0][self.world[1][f][1]]) - 1
            for g, both in enumerate(self.world[2][f]):
                if both >= 0:
                    moves = self.lot[1][g]
                    row = rows.setdefault(both, moves)
                    mask &= mask_of([k for k, moved in enumerate(moves) if row[k] == moved])
            self.known[f] = (rows, mask)
        return self.known[f]

    def signs_at(self, f, arrows):
        """For each element that may stand at f what it gives at the arrows."""
        rows, mask = self.entries_at(f)
        return {k: tuple([rows[g][k] for g in arrows]) for k in bits_of(mask)}

    def lets_of(self, f, g):
        """For each element that may stand at f the set of those that may then stand at g."""
        if (f, g) not in self.lets:
            shared = self.roots_of(bits_of(self.reach[f] & self.reach[g]))
            theirs = self.signs_at(g, shared)
            found = {}
            for k in theirs:
                found[theirs[k]] = found.get(theirs[k], 0) | 1 << k
            ours = self.signs_at(f, shared)
            self.lets[(f, g)] = {k: found.get(ours[k], 0) for k in ours}
        return self.lets[(f, g)]

    def tied_to(self, roots, f):
        """The places of the roots that make an arrow that f makes, too, with what they let."""
        reach = self.reach
        return [(k, self.lets_of(f, g)) for k, g in enumerate(roots) if g != f and reach[f] & reach[g]]

    def choosing(self, roots):
        """The search for the entries at the roots."""
        choices = [self.entries_at(f)[1] for f in roots]
        return Choosing(choices, [self.tied_to(roots, f) for f in roots], self.most)

    def how_many(self, fan):
        """How many choices fit; raises TooMany if they are more than most."""
        return self.choosing(self.roots_of(fan)).how_many()

    def choices_for(self, fan):
        """All choices that fit, ascending; raises TooMany if they are more than most."""
        roots = self.roots_of(fan)
        told = []
        for g in fan:
            place = [k for k, f in enumerate(roots) if self.reach[f] >> g & 1][0]
            told.append((place, self.entries_at(roots[place])[0][g]))
        return sorted([tuple([row[entries[k]] for k, row in told]) for entries in self.choosing(roots).rows()])
