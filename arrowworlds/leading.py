"""The search for the ways to lead the arrows of one world to arrows of another one.

A list of choices tells for each arrow of the one world the arrows of the other one to
which it may still go. An arrow with one choice left is settled.
"""

from arrowworlds.chiefs import chiefs_of
from arrowworlds.worlds import turned


def narrowest(choices, arrows):
    """The one of the arrows that is not settled and has the fewest choices, or None if all are settled."""
    best = None
    for f in arrows:
        if len(choices[f]) != 1 and (best is None or len(choices[f]) < len(choices[best])):
            best = f
    return best


def settled_at(choices, f, g):
    """The choices in which f goes to g, and all else is as before."""
    return choices[:f] + [[g]] + choices[f + 1:]


class Leading:
    """Leads arrows so that f and then g goes to what f and g go to, one behind the other.

    If it is strict, no two arrows go to one, and arrows that do not follow one another
    go to such ones.
    """

    def __init__(self, one, other, strict):
        self.table = one[2]
        self.ahead = other[2]
        self.back = turned(other)[2]
        self.strict = strict
        self.chiefs = chiefs_of(one)

    def may_go(self, choices, both, image):
        """Whether what two arrows make, -1 for nothing, may go to what their images make."""
        if both < 0:
            return image < 0 or not self.strict
        return image in choices[both]

    def force(self, choices, fresh):
        """Settle what the fresh arrows make with the settled ones; this changes the choices.

        Returns all arrows that are settled by this, the fresh ones among them, or None
        if they contradict one another.
        """
        settled = [f for f, row in enumerate(choices) if len(row) == 1 and f not in fresh]
        waiting = list(fresh)
        told = []
        while waiting:
            f = waiting.pop()
            settled.append(f)
            told.append(f)
            for h in settled:
                if self.strict and h != f and choices[h] == choices[f]:
                    return None
                g, k = choices[f][0], choices[h][0]
                for both, image in ((self.table[f][h], self.ahead[g][k]), (self.table[h][f], self.ahead[k][g])):
                    if not self.may_go(choices, both, image):
                        return None
                    if both >= 0 and len(choices[both]) > 1:
                        choices[both] = [image]
                        waiting.append(both)
        return told

    def fitting(self, choices, f, h):
        """The choices of h that fit the arrow f, which is settled."""
        g, left = choices[f][0], choices[h]
        if self.strict:
            left = [k for k in left if k != g]
        for both, images in ((self.table[f][h], self.ahead[g]), (self.table[h][f], self.back[g])):
            if both == h:
                left = [k for k in left if images[k] == k]
            elif both >= 0 or self.strict:
                left = [k for k in left if self.may_go(choices, both, images[k])]
        return left

    def narrow(self, choices, told):
        """Take away choices that do not fit the arrows told; returns the arrows settled by this."""
        fresh = []
        for h in range(len(choices)):
            before = len(choices[h])
            for f in told:
                if len(choices[h]) > 1:
                    choices[h] = self.fitting(choices, f, h)
            if len(choices[h]) == 1 and before > 1:
                fresh.append(h)
        return fresh

    def settle(self, choices, fresh):
        """The choices left behind the fresh arrows, or None if these contradict one another."""
        left = list(choices)
        waiting = fresh
        while waiting and [] not in left:
            told = self.force(left, waiting)
            if told is None:
                return None
            waiting = self.narrow(left, told)
        return None if [] in left else left

    def found(self, choices, most):
        """All ways to lead the arrows within the choices; it stops behind one more than most."""
        rows = []
        waiting = [(choices, [f for f, row in enumerate(choices) if len(row) == 1])]
        while waiting and len(rows) <= most:
            before, fresh = waiting.pop()
            left = self.settle(before, fresh)
            if left is not None:
                f = narrowest(left, self.chiefs)
                if f is None:
                    rows.append(tuple([row[0] for row in left]))
                else:
                    waiting.extend([(settled_at(left, f, g), [f]) for g in reversed(left[f])])
        return rows
