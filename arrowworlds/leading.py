"""The search for the ways to lead the arrows of one world to arrows of another one.

Choices tell for each arrow of the one world the arrows of the other one to which it may
still go.
"""

from arrowworlds.bits import bits_of
from arrowworlds.chiefs import chiefs_of
from arrowworlds.choices import is_settled, narrowest, settled_at, value_of
from arrowworlds.worlds import turned


def origins_of(table):
    """For each arrow g and each arrow w, the set of those k for which the table has w at g and k."""
    found = []
    for row in table:
        masks = [0] * len(row)
        for k, w in enumerate(row):
            if w >= 0:
                masks[w] |= 1 << k
        found.append(masks)
    return found


def kept_by(table):
    """For each arrow g the set of those k for which the table has k itself at g and k."""
    return [sum([1 << k for k, w in enumerate(row) if w == k]) for row in table]


def told_pairs(table, back, chiefs):
    """For each arrow f what it makes with others, as triples (h, both, side).

    On the side 0 both is f and then h, on the side 1 it is h and then f. What an arrow makes
    with the chief arrows is enough, as these make all others.
    """
    every = list(range(len(table)))
    found = []
    for f in every:
        met = every if f in chiefs else chiefs
        sides = [(h, table[f][h], 0) for h in met] + [(h, back[f][h], 1) for h in met]
        found.append([told for told in sides if told[1] >= 0])
    return found


def landing_of(other):
    """What the search asks of the world to which it leads: its tables both ways, their origins, and what they keep."""
    tables = (other[2], turned(other)[2])
    return (tables, [origins_of(table) for table in tables], [kept_by(table) for table in tables])


class Leading:
    """Leads arrows so that f and then g goes to what f and g go to, one behind the other.

    The world to which it leads is told by landing_of. If it is strict, no two arrows go to one.
    """

    def __init__(self, one, landing, strict):
        self.chiefs = chiefs_of(one)
        self.pairs = told_pairs(one[2], turned(one)[2], self.chiefs)
        self.tables, self.origins, self.kept = landing
        self.strict = strict

    def take_away(self, left, f, waiting):
        """Take the arrow to which f goes from all other choices; returns whether each keeps one."""
        taken = left[f]
        for h in range(len(left)):
            if left[h] & taken and h != f:
                if left[h] == taken:
                    return False
                left[h] -= taken
                if is_settled(left[h]):
                    waiting.append(h)
        return True

    def spread(self, left, f, waiting):
        """Narrow the choices by where f goes, and note what this settles; returns whether they fit."""
        g = value_of(left[f])
        for h, both, side in self.pairs[f]:
            mask, image = left[h], left[both]
            if mask & (mask - 1) == 0:
                image = self.tables[side][g][mask.bit_length() - 1]
                if image < 0 or left[both] & (1 << image) == 0:
                    return False
                if left[both] != 1 << image:
                    left[both] = 1 << image
                    waiting.append(both)
            elif both == h or image & (image - 1) == 0:
                mask &= self.kept[side][g] if both == h else self.origins[side][g][image.bit_length() - 1]
                if mask == 0:
                    return False
                if mask != left[h]:
                    left[h] = mask
                    if mask & (mask - 1) == 0:
                        waiting.append(h)
        return True

    def settle(self, choices, fresh):
        """The choices left behind the fresh arrows, which are settled, or None if these contradict one another."""
        if 0 in choices:
            return None
        left = list(choices)
        waiting = list(fresh)
        while waiting:
            f = waiting.pop()
            if self.strict and not self.take_away(left, f, waiting):
                return None
            if not self.spread(left, f, waiting):
                return None
        return left

    def found(self, choices, fresh, most, patience):
        """All ways to lead the arrows within the choices; it stops behind one more than most.

        The fresh arrows are those that were settled last. It returns None if it comes
        to more dead ends than its patience, None for any number.
        """
        rows = []
        dead = 0
        waiting = [(choices, fresh)]
        while waiting and len(rows) <= most:
            before, last = waiting.pop()
            left = self.settle(before, last)
            if left is None:
                dead += 1
                if patience is not None and dead > patience:
                    return None
                continue
            f = narrowest(left, self.chiefs)
            if f is None:
                rows.append(tuple([value_of(mask) for mask in left]))
            else:
                waiting.extend([(settled_at(left, f, g), [f]) for g in reversed(bits_of(left[f]))])
        return rows
