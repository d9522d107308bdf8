"""[41], [42]: kinds that let fractions, and worlds turned back by them."""

import itertools
import random
import unittest

from arrowworlds import errors
from arrowworlds.arrows import back_of
from arrowworlds.backturns import fraction_breach, into_turned_back, kept_kind, turnable_kind, turned_back
from arrowworlds.joins import are_copies
from arrowworlds.made import product, sum_of
from arrowworlds.maps import map_breach, maps_between
from arrowworlds.orders import chain_world
from arrowworlds.worlds import turned, world_breach
from tests.samples import (APART8, BACK, CHAIN2, CHAIN3, EMPTY, EQUALIZED, FORK, IDLE, POINT, SMALL, SPLIT, TWO, band,
                           check_calls, hand, named_world, null, raised, random_worlds, ring, seconds,
                           turnable_by_words)
from tests.test_cones import CROSS, SQUARE
from tests.test_truths import steps

# Two arrows from 1 to 2 that the arrow 5, ahead of them, makes one.
PULL = hand(3, [(1, 2), (1, 2), (0, 1), (0, 2)], {(5, 3): 6, (5, 4): 6})
WORLDS = SMALL + (SQUARE, CROSS, PULL, sum_of(PULL, POINT)) + tuple(random_worlds(410, 16, 9))
WORLDS += tuple(turned(world) for world in WORLDS[-8:])
NO_FRACTIONS = (errors.NotFractions, {})
FORTY = (errors.TooMany, {"limit": 40})


def breach_by_words(world, kind):
    n, ends, table = world
    arrows = range(len(ends))
    for x in range(n):
        if x not in kind:
            return ("still", x)
    for f, g in itertools.product(kind, repeat=2):
        if table[f][g] >= 0 and table[f][g] not in kind:
            return ("then", f, g)
    for w, f in itertools.product(kind, arrows):
        if ends[w][0] == ends[f][0] and not any(table[w][h] >= 0 and table[w][h] == table[f][v]
                                                for h in arrows for v in kind):
            return ("square", w, f)
    for w, f, g in itertools.product(kind, arrows, arrows):
        if f != g and ends[f] == ends[g] and ends[f][0] == ends[w][1] and table[w][f] == table[w][g]:
            if not any(table[f][v] >= 0 and table[f][v] == table[g][v] for v in kind):
                return ("cancel", w, f, g)
    return None


def kinds_of(world):
    for chosen in itertools.product((False, True), repeat=len(world[1])):
        yield tuple(f for f, there in enumerate(chosen) if there)


def drawn_kind(rng, world):
    """A kind that often lets fractions: still arrows, some others, and what these make."""
    kind = set(range(world[0])) | {f for f in range(len(world[1])) if rng.random() < 0.3}
    grown = rng.random() < 0.9
    while grown:
        made = {world[2][f][g] for f in kind for g in kind if world[2][f][g] >= 0}
        grown = not made <= kind
        kind |= made
    if rng.random() < 0.1 and kind:
        kind.discard(rng.choice(sorted(kind)))
    return tuple(sorted(kind))


def letting_kinds(seed, worlds, many):
    """Worlds with kinds that let fractions."""
    rng = random.Random(seed)
    for world in worlds:
        if len(world[1]) <= 9:
            found = [kind for kind in kinds_of(world) if breach_by_words(world, kind) is None]
        else:
            found = [kind for kind in {drawn_kind(rng, world) for _ in range(20)}
                     if breach_by_words(world, kind) is None]
        for kind in rng.sample(sorted(found), min(many, len(found))):
            yield world, kind


def fractions_by_words(world, kind):
    """For each pair its part, by parting all pairs until nothing changes."""
    ends, table = world[1], world[2]
    arrows = range(len(ends))
    pairs = [(f, w) for f in arrows for w in kind if ends[f][1] == ends[w][1]]
    part = {pair: {pair} for pair in pairs}
    for f, w in pairs:
        for h in arrows:
            if table[f][h] >= 0 and table[w][h] in kind:
                first, second = part[(f, w)], part[(table[f][h], table[w][h])]
                if first is not second:
                    first |= second
                    for pair in second:
                        part[pair] = first
    return part


def turned_back_by_words(world, kind):
    ends, table = world[1], world[2]
    part = fractions_by_words(world, kind)

    def then(first, second):
        """All that the words let for the one and then the other: it is to be one part."""
        found = set()
        for f, w in part[first]:
            for g, v in part[second]:
                for h in range(len(ends)):
                    for u in kind:
                        if table[w][h] >= 0 and table[w][h] == table[g][u]:
                            found.add(min(part[(table[f][h], table[v][u])]))
        assert len(found) == 1, found
        return found.pop()

    things = [(x,) for x in range(world[0])]
    arrows = [((ends[f][0],), (ends[w][0],), (f, w)) for f, w in part if min(part[(f, w)]) == (f, w)]
    stills = [((x,), (x,), min(part[(x, x)])) for x in range(world[0])]
    return named_world(things, stills, arrows, then), [arrow[2] for arrow in arrows]


class Breaches(unittest.TestCase):

    def check(self, world, kind, breach):
        self.assertEqual(fraction_breach(world, kind), breach, kind)

    def test_by_hand(self):
        self.check(EMPTY, (), None)
        self.check(POINT, (0,), None)
        self.check(CHAIN2, (0, 1, 2), None)
        self.check(CHAIN2, (0, 1), None)
        self.check(FORK, (0, 1), None)
        self.check(ring(4), (0, 2), None)
        self.check(SPLIT, (0, 1, 2, 3, 4), None)

    def test_each_word_alone(self):
        self.check(POINT, (), ("still", 0))
        self.check(CHAIN2, (0, 2), ("still", 1))
        self.check(CHAIN3, (0, 1, 2, 3, 5), ("then", 3, 5))
        self.check(ring(4), (0, 1), ("then", 1, 1))
        self.check(FORK, (0, 1, 2), ("square", 2, 3))
        self.check(hand(3, [(0, 1), (0, 2)]), (0, 1, 2, 3, 4), ("square", 3, 4))
        # The arrow 3 does what the arrow 2 does once it stands behind the arrow 4, and nothing follows both.
        self.assertIsNone(world_breach(PULL))
        self.check(PULL, (0, 1, 2, 5), ("cancel", 5, 3, 4))
        self.check(EQUALIZED, (0, 1, 2, 6), None)

    def test_the_least_place(self):
        # Where the kind lacks two still arrows, and for two pairs, squares and triples.
        self.check(APART8, (0, 1, 3, 4, 6, 7), ("still", 2))
        both = sum_of(CHAIN3, CHAIN3)
        self.check(both, (0, 1, 2, 3, 4, 5, 6, 8, 9, 11), ("then", 6, 8))
        self.check(both, (0, 1, 2, 3, 4, 5, 6, 7, 8, 9, 11), ("then", 9, 11))
        forks = sum_of(FORK, FORK)
        self.check(forks, (0, 1, 2, 3, 4, 5, 6, 7), ("square", 4, 5))
        self.check(forks, (0, 1, 2, 3, 5, 6, 7), ("square", 5, 4))
        self.check(forks, (0, 1, 2, 3, 6, 7), ("square", 6, 7))
        self.check(forks, (0, 1, 2, 3, 7), ("square", 7, 6))
        pulls = sum_of(PULL, PULL)
        # Here 6 to 9 are the arrows of the one, 10 to 13 those of the other one.
        self.assertEqual(pulls[1][6:], ((0, 1), (0, 2), (1, 2), (1, 2), (3, 4), (3, 5), (4, 5), (4, 5)))
        self.check(pulls, (0, 1, 2, 3, 4, 5, 6, 10), ("cancel", 6, 8, 9))
        self.check(pulls, (0, 1, 2, 3, 4, 5, 10), ("cancel", 10, 12, 13))

    def test_several_at_once(self):
        self.check(CHAIN3, (0, 1, 3, 5), ("still", 2))
        self.check(FORK, (0, 2), ("still", 1))
        both = sum_of(CHAIN3, FORK)
        self.check(both, (0, 1, 2, 3, 4, 5, 7, 8, 9), ("then", 5, 7))
        self.check(both, (0, 1, 2, 3, 4, 8, 9), ("square", 8, 9))
        more = sum_of(PULL, FORK)
        self.assertEqual(more[1][5:], ((0, 1), (0, 2), (1, 2), (1, 2), (3, 4), (3, 4)))
        self.check(more, (0, 1, 2, 3, 4, 5, 10), ("square", 10, 9))
        self.check(more, (0, 1, 2, 3, 4, 5), ("cancel", 5, 7, 8))
        self.check(more, (1, 2, 3, 4, 5, 10), ("still", 0))

    def test_by_the_words(self):
        rng = random.Random(411)
        words = {}
        for world in WORLDS:
            kinds = list(kinds_of(world)) if len(world[1]) <= 7 else [drawn_kind(rng, world) for _ in range(40)]
            for kind in kinds:
                breach = breach_by_words(world, kind)
                self.check(world, kind, breach)
                words[breach and breach[0]] = words.get(breach and breach[0], 0) + 1
        for word in (None, "still", "then", "square", "cancel"):
            self.assertGreater(words[word], 3, word)

    def test_turnable_kind(self):
        self.assertEqual(turnable_kind(EMPTY), ())
        self.assertEqual(turnable_kind(CHAIN3), (0, 1, 2))
        self.assertEqual(turnable_kind(BACK), (0, 1, 2, 3))
        self.assertEqual(turnable_kind(SPLIT), (0, 1))
        self.assertEqual(turnable_kind(ring(4)), (0, 1, 2, 3))
        for world in WORLDS + (APART8, product(BACK, ring(3))):
            self.assertEqual(turnable_kind(world), tuple(turnable_by_words(world)))
            self.check(world, turnable_kind(world), None)


class TurnedBack(unittest.TestCase):

    def test_by_hand(self):
        self.assertEqual(turned_back(EMPTY, ()), EMPTY)
        self.assertEqual(turned_back(CHAIN2, (0, 1)), CHAIN2)
        self.assertEqual(turned_back(CHAIN2, (0, 1, 2)), BACK)
        self.assertEqual(into_turned_back(CHAIN2, (0, 1, 2)), ((0, 1), (0, 1, 2)))
        self.assertEqual(kept_kind(CHAIN2, (0, 1, 2)), (0, 1, 2))
        # Both idle arrows become one, and so do the arrows of a fork that a third one makes alike.
        self.assertEqual(turned_back(IDLE, (0, 1)), POINT)
        self.assertEqual(into_turned_back(IDLE, (0, 1)), ((0,), (0, 0)))
        self.assertEqual(turned_back(EQUALIZED, (0, 1, 2, 6)),
                         hand(3, [(0, 1), (0, 2), (1, 2), (2, 1)],
                              {(3, 5): 4, (4, 6): 3, (5, 6): 1, (6, 5): 2}))
        self.assertEqual(into_turned_back(EQUALIZED, (0, 1, 2, 6)), ((0, 1, 2), (0, 1, 2, 3, 3, 4, 5)))
        # In a ring nothing changes but the names: the arrow a is the pair (0, -a).
        self.assertEqual(into_turned_back(ring(3), (0, 1, 2)), ((0,), (0, 2, 1)))
        self.assertEqual(into_turned_back(ring(3), (0,)), ((0,), (0, 1, 2)))

    def test_by_parting_all_pairs(self):
        seen = 0
        for world, kind in letting_kinds(420, WORLDS, 5):
            expected, pairs = turned_back_by_words(world, kind)
            if len(pairs) > 40:
                for function in (turned_back, into_turned_back, kept_kind):
                    self.assertEqual(raised(function, world, kind), FORTY)
                continue
            found = turned_back(world, kind)
            self.assertEqual(found, expected)
            self.assertIsNone(world_breach(found))
            seen += 1
        self.assertGreater(seen, 80)

    def test_into_by_its_names(self):
        for world, kind in letting_kinds(421, WORLDS, 5):
            if raised(turned_back, world, kind) is None:
                found, along = turned_back(world, kind), into_turned_back(world, kind)
                self.assertIsNone(map_breach(world, found, along))
                self.assertEqual(along[0], tuple(range(world[0])))
                part = fractions_by_words(world, kind)
                names = {k: min(part[(f, world[1][f][1])]) for f, k in enumerate(along[1])}
                firsts = [(f, w) for f, w in part if min(part[(f, w)]) == (f, w)]
                listed = sorted((world[1][f][0], world[1][w][0], (f, w)) for f, w in firsts)
                stills = [(x, x, min(part[(x, x)])) for x in range(world[0])]
                listed = stills + [told for told in listed if told not in stills]
                self.assertEqual({k: listed[k][2] for k in names}, names)
                for w in kind:
                    self.assertIsNotNone(back_of(found, along[1][w]))

    def test_kept_kind(self):
        seen = 0
        for world, kind in letting_kinds(422, WORLDS, 5):
            if raised(turned_back, world, kind) is None:
                found, along = turned_back(world, kind), into_turned_back(world, kind)
                kept = kept_kind(world, kind)
                turnable = turnable_by_words(found)
                self.assertEqual(kept, tuple(f for f in range(len(world[1])) if along[1][f] in turnable))
                self.assertIsNone(fraction_breach(world, kept))
                self.assertTrue(are_copies(turned_back(world, kept), found))
                seen += kept != kind
        self.assertGreater(seen, 10)

    def test_as_many_maps(self):
        seen = 0
        for world, kind in letting_kinds(423, WORLDS, 3):
            for other in (POINT, CHAIN2, BACK, IDLE, SPLIT, ring(3), FORK):
                if raised(turned_back, world, kind) is None and raised(maps_between, world, other) is None:
                    turnable = turnable_by_words(other)
                    expected = [q for _, q in maps_between(world, other) if all(q[w] in turnable for w in kind)]
                    found = maps_between(turned_back(world, kind), other)
                    into = into_turned_back(world, kind)[1]
                    self.assertEqual(sorted(tuple(q[g] for g in into) for _, q in found), expected)
                    seen += 1
        self.assertGreater(seen, 200)

    def test_turned_back_by_turnable_arrows(self):
        for world in WORLDS:
            self.assertTrue(are_copies(turned_back(world, turnable_kind(world)), world))
            self.assertEqual(kept_kind(world, turnable_kind(world)), turnable_kind(world))

    def test_errors(self):
        for function in (turned_back, into_turned_back, kept_kind):
            for world, kind in ((POINT, ()), (CHAIN3, (0, 1, 2, 3, 5)), (FORK, (0, 1, 2))):
                self.assertEqual(raised(function, world, kind), NO_FRACTIONS)
            # All arrows of a chain turned back: 64 arrows between 8 things. Seven things and one apart have 50.
            chain = chain_world(8)
            self.assertEqual(raised(function, chain, tuple(range(36))), FORTY)
            self.assertEqual(raised(function, chain, tuple(range(35))), NO_FRACTIONS)
            self.assertEqual(raised(function, chain_world(7), tuple(range(28))), FORTY)
            self.assertIsNone(raised(function, chain_world(6), tuple(range(21))))
        # 36 arrows, and with four more just 40.
        self.assertEqual(len(turned_back(chain_world(6), tuple(range(21)))[1]), 36)
        more = sum_of(chain_world(6), hand(2, [(0, 1), (0, 1)]))
        kind = tuple(f for f in range(len(more[1])) if more[1][f][0] < 6 or f < 8)
        self.assertEqual(len(turned_back(more, kind)[1]), 40)
        more = sum_of(chain_world(6), hand(2, [(0, 1), (0, 1), (0, 1)]))
        kind = tuple(f for f in range(len(more[1])) if more[1][f][0] < 6 or f < 8)
        self.assertEqual(raised(turned_back, more, kind), FORTY)


class Calls(unittest.TestCase):

    def test_calls(self):
        check_calls(self, fraction_breach, {"world": FORK, "kind": (0, 1, 2)})
        check_calls(self, turnable_kind, {"world": BACK})
        for function in (turned_back, into_turned_back, kept_kind):
            check_calls(self, function, {"world": SPLIT, "kind": (0, 1, 2, 3, 4)})

    def test_how_long_it_takes(self):
        for world in random_worlds(424, 20, 14):
            for kind in (turnable_kind(world), tuple(range(len(world[1])))):
                self.check_all(world, kind, 0.1)
        for world in (ring(40), band(40), null(40), APART8, chain_world(8), chain_world(6), product(BACK, ring(10)),
                      hand(2, [(0, 1)] * 38), sum_of(ring(20), null(20)), TWO, steps(40)):
            for kind in (turnable_kind(world), tuple(range(len(world[1]))), tuple(range(world[0]))):
                self.check_all(world, kind, 1)

    def check_all(self, world, kind, limit):
        self.assertLess(seconds(turnable_kind, world), limit)
        for function in (fraction_breach, turned_back, into_turned_back, kept_kind):
            self.assertLess(seconds(function, world, kind), limit)


if __name__ == "__main__":
    unittest.main()
