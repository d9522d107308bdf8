"""The search for all rows of values that fit: one value for each place, within its choices, so that all ties hold.

A tie is a tuple (i, j, left, right): the entry of left at the value of the place i is to
be the entry of right at the value of the place j.

What is found is told as a tree. A tree is a tuple (many, told, groups): many rows, in all
of which the places in the dict told have the values told there; the other places are
parted into groups that do not depend on one another, each told as the list of two or
more trees for its rows. So rows are told without being written out one by one.
"""

from arrowworlds.bits import bits_of, many_in
from arrowworlds.choices import is_settled, settled_at, value_of
from arrowworlds.errors import TooMany


def kept_choices(choices, ties):
    """The choices that fit the ties of a place to itself."""
    kept = list(choices)
    for i, j, left, right in ties:
        if i == j:
            kept[i] = sum([1 << v for v in bits_of(kept[i]) if left[v] == right[v]])
    return kept


def values_by_image(mask, row):
    """For each entry of the row at a value of the set the set of the values that have it."""
    found = {}
    for v in bits_of(mask):
        found[row[v]] = found.get(row[v], 0) | 1 << v
    return found


def let_pairs(choices, ties):
    """For each two places (i, j), i < j, that are tied, for each value at i the set of those that fit it at j."""
    found = {}
    for i, j, left, right in ties:
        if i > j:
            i, j, left, right = j, i, right, left
        if i < j:
            lets = found.setdefault((i, j), {v: choices[j] for v in bits_of(choices[i])})
            images = values_by_image(choices[j], right)
            for v in bits_of(choices[i]):
                lets[v] &= images.get(left[v], 0)
    return found


def turned_lets(choices, j, lets):
    """For each value at j the set of those at the other place that fit it."""
    found = {w: 0 for w in bits_of(choices[j])}
    for v in lets:
        for w in bits_of(lets[v]):
            found[w] |= 1 << v
    return found


def tied_places(choices, ties):
    """For each place the places that are tied to it, each with the sets of what fits each value."""
    tied = [[] for _ in choices]
    pairs = let_pairs(choices, ties)
    for i, j in pairs:
        lets = pairs[(i, j)]
        if any([lets[v] != choices[j] for v in lets]):
            tied[i].append((j, lets))
            tied[j].append((i, turned_lets(choices, j, lets)))
    return tied


def rows_told(tree):
    """The rows of a tree, each as a dict from places to values."""
    _, told, groups = tree
    rows = [told]
    parts = [[row for branch in branches for row in rows_told(branch)] for branches in groups]
    # The short ones first, so that there are few rows as long as can be.
    for _, k in sorted([(len(part), k) for k, part in enumerate(parts)]):
        rows = [{**row, **more} for row in rows for more in parts[k]]
    return rows


class Choosing:
    """The search within choices and tied places; it need not go on behind more than most rows."""

    def __init__(self, choices, tied, most):
        self.choices = choices
        self.tied = tied
        self.most = most

    def narrowed(self, choices, fresh):
        """The choices without values that fit none at a tied place, or None if nothing is left somewhere.

        The fresh places are those whose choices were narrowed last.
        """
        if 0 in choices:
            return None
        left = list(choices)
        waiting = list(fresh)
        while waiting:
            i = waiting.pop()
            values = bits_of(left[i])
            for j, lets in self.tied[i]:
                mask = 0
                for v in values:
                    mask |= lets[v]
                if left[j] & mask == 0:
                    return None
                if left[j] & mask != left[j]:
                    left[j] &= mask
                    if j not in waiting:
                        waiting.append(j)
        return left

    def group_of(self, left, start):
        """The places that are not settled and depend on start, by ties from one to the next."""
        found = {}
        waiting = [start]
        while waiting:
            i = waiting.pop()
            if i not in found:
                found[i] = True
                waiting.extend([j for j, _ in self.tied[i] if not is_settled(left[j])])
        return list(found)

    def groups_of(self, left, places):
        """The places that are not settled, parted into groups that do not depend on one another."""
        found = []
        seen = {}
        for i in places:
            if i not in seen and not is_settled(left[i]):
                group = self.group_of(left, i)
                found.append(group)
                seen.update({j: True for j in group})
        return found

    def chosen(self, left, group):
        """One of the places of the group with the fewest values, and of these with the most ties.

        It is the one in the middle of these, as this is likely to part what is left.
        """
        ranks = []
        for i in group:
            loose = [j for j, _ in self.tied[i] if not is_settled(left[j])]
            ranks.append((many_in(left[i]), -len(loose)))
        least = min(ranks)
        best = [i for i, rank in zip(group, ranks) if rank == least]
        return best[len(best) // 2]

    def tree(self, choices, fresh, places):
        """The tree of the rows for the places within the choices."""
        left = self.narrowed(choices, fresh)
        if left is None:
            return (0, {}, [])
        told = {i: value_of(left[i]) for i in places if is_settled(left[i])}
        many, groups = 1, []
        for group in self.groups_of(left, places):
            at = self.chosen(left, group)
            branches, here = [], 0
            for v in bits_of(left[at]):
                if here <= self.most:
                    branch = self.tree(settled_at(left, at, v), [at], group) if len(group) > 1 else (1, {at: v}, [])
                    if branch[0] > 0:
                        here += branch[0]
                        branches.append(branch)
            many *= here
            if many == 0:
                return (0, {}, [])
            if len(branches) == 1:
                told.update(branches[0][1])
                groups.extend(branches[0][2])
            else:
                groups.append(branches)
        return (many, told, groups)

    def whole_tree(self):
        """The tree of all rows."""
        places = list(range(len(self.choices)))
        return self.tree(self.choices, places, places)

    def let_tree(self):
        """The tree of all rows; raises TooMany if they are more than most."""
        tree = self.whole_tree()
        if tree[0] > self.most:
            raise TooMany(self.most)
        return tree

    def how_many(self):
        """How many rows there are; raises TooMany if they are more than most."""
        return self.let_tree()[0]

    def rows(self):
        """All rows, as an ascending list of tuples; raises TooMany if they are more than most."""
        tree = self.let_tree()
        if tree[0] == 0:
            return []
        return sorted([tuple([row[k] for k in range(len(self.choices))]) for row in rows_told(tree)])


def search_by(choices, ties, most):
    """The search within choices and ties."""
    kept = kept_choices(choices, ties)
    return Choosing(kept, tied_places(kept, ties), most)


def count_rows(choices, ties, most):
    """How many rows fit; raises TooMany if they are more than most."""
    return search_by(choices, ties, most).how_many()


def all_rows(choices, ties, most):
    """All rows that fit, as an ascending list of tuples; raises TooMany if they are more than most."""
    return search_by(choices, ties, most).rows()
