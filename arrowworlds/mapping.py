"""The search for all maps between two worlds: piece by piece, so that they are counted before they are listed.

A map is told by where it leads the arrows. Maps of unlike pieces do not depend on one
another, so that there are as many as the products of theirs.
"""

from arrowworlds.bits import mask_of
from arrowworlds.choices import settled_places
from arrowworlds.errors import TooMany
from arrowworlds.leading import Leading, landing_of
from arrowworlds.pieces import LONE, piece_world, pieces_of


def map_choices(one, other):
    """For each arrow of one the arrows of other that it may go to, by stillness and by ends."""
    stills = (1 << other[0]) - 1
    loops = mask_of([g for g, (x, y) in enumerate(other[1]) if x == y])
    every = (1 << len(other[1])) - 1
    rest = [loops if x == y else every for x, y in one[1][one[0]:]]
    return [stills for _ in range(one[0])] + rest


class Mapping:
    """All maps from one world to another one; raises TooMany if they are more than most."""

    def __init__(self, one, other, most):
        self.one = one
        self.other = other
        self.pieces = pieces_of(one)
        self.landing = None
        self.leads = []
        self.many = 1
        known = {}
        for arrows in self.pieces:
            piece = piece_world(one, arrows)
            if piece not in known:
                known[piece] = self.leads_of(piece, most // max(self.many, 1))
            self.leads.append(known[piece])
            self.many *= len(known[piece])
            # The other pieces have maps, too: those that take all to a still arrow.
            if self.many > most:
                raise TooMany(most)

    def leads_of(self, piece, most):
        """The ways to lead the arrows of the piece; it stops behind one more than most."""
        if piece == LONE:
            return [(x,) for x in range(self.other[0])]
        if self.landing is None:
            self.landing = landing_of(self.other)
        choices = map_choices(piece, self.other)
        return Leading(piece, self.landing, False).found(choices, settled_places(choices), most, None)

    def maps(self):
        """All maps as pairs of tuples of things and of arrows, ascending."""
        if self.many == 0:
            return ()
        rows = [()]
        for leads in self.leads:
            rows = [row + lead for row in rows for lead in leads]
        listed = [f for arrows in self.pieces for f in arrows]
        if listed != sorted(listed):
            places = [listed.index(f) for f in range(len(listed))]
            rows = [tuple([row[k] for k in places]) for row in rows]
        return tuple([(q[:self.one[0]], q) for q in sorted(rows)])
