"""[43], [44]: squares, what fills them, and parting pairs."""

import itertools
import random
import unittest

from arrowworlds import errors
from arrowworlds.backturns import turnable_kind
from arrowworlds.made import product, sum_of
from arrowworlds.orders import chain_world
from arrowworlds.squares import does_fill_against, left_of, lifts, parted, parting_pairs, right_of
from arrowworlds.worlds import turned, world_breach
from tests.samples import (APART8, BACK, CHAIN2, CHAIN3, EMPTY, EQUALIZED, FORK, IDLE, POINT, SMALL, SPLIT, TWO, band,
                           between_by_words, check_calls, hand, loops, null, raised, random_worlds, ring, seconds,
                           turnable_by_words)
from tests.test_cones import CROSS, SQUARE
from tests.test_truths import steps

WORLDS = SMALL + (SQUARE, CROSS) + tuple(random_worlds(430, 20, 10))
TWELVE = (errors.TooMany, {"limit": 12})


def squares_of(world, e, m):
    (a, b), (c, d) = world[1][e], world[1][m]
    return [(u, v) for u in between_by_words(world, a, c) for v in between_by_words(world, b, d)
            if world[2][u][m] == world[2][e][v]]


def lifts_by_words(world, e, m, u, v):
    arrows = between_by_words(world, world[1][e][1], world[1][m][0])
    return tuple(f for f in arrows if world[2][e][f] == u and world[2][f][m] == v)


def fills_by_words(world, e, m):
    return all(len(lifts_by_words(world, e, m, u, v)) == 1 for u, v in squares_of(world, e, m))


def right_by_words(world, kind):
    return tuple(m for m in range(len(world[1])) if all(fills_by_words(world, e, m) for e in kind))


def left_by_words(world, kind):
    return tuple(e for e in range(len(world[1])) if all(fills_by_words(world, e, m) for m in kind))


def subsets(many):
    for chosen in itertools.product((False, True), repeat=many):
        yield tuple(k for k, there in enumerate(chosen) if there)


def parting_by_words(world):
    """All parting pairs, by trying out all kinds as the left one."""
    arrows = range(len(world[1]))
    fills = {(e, m): fills_by_words(world, e, m) for e in arrows for m in arrows}
    found = []
    for left in subsets(len(world[1])):
        right = tuple(m for m in arrows if all(fills[(e, m)] for e in left))
        if left == tuple(e for e in arrows if all(fills[(e, m)] for m in right)):
            if all(any(world[2][e][m] == f for e in left for m in right) for f in arrows):
                found.append((left, right))
    return tuple(sorted(found))


class Lifts(unittest.TestCase):

    def test_by_hand(self):
        self.assertEqual(lifts(POINT, 0, 0, 0, 0), (0,))
        # The still arrow of 0 against the arrow 3 of a chain: 0 and then 3, and 0 and then 3.
        self.assertEqual(lifts(CHAIN3, 0, 3, 0, 3), (0,))
        self.assertEqual(lifts(CHAIN3, 3, 5, 3, 5), (1,))
        # The arrow 4 from 0 to 2 against itself: nothing leads back from 2 to 0.
        self.assertEqual(lifts(CHAIN3, 4, 4, 0, 2), ())
        self.assertEqual(does_fill_against(CHAIN3, 4, 4), False)
        self.assertEqual(lifts(ring(3), 1, 2, 0, 1), (2,))
        # Both arrows are one with the idle arrow on both sides.
        self.assertEqual(lifts(IDLE, 1, 1, 1, 1), (0, 1))
        self.assertEqual(lifts(IDLE, 1, 1, 0, 0), ())
        self.assertEqual(does_fill_against(IDLE, 1, 1), False)
        self.assertEqual(does_fill_against(IDLE, 0, 1), True)

    def test_several_or_none_are_not_enough(self):
        # In a world with just one arrow that could lift, it lifts no square or the only one.
        self.assertTrue(does_fill_against(FORK, 2, 3))
        self.assertFalse(does_fill_against(FORK, 2, 2))
        self.assertEqual(squares_of(FORK, 2, 3), [])
        self.assertEqual(squares_of(FORK, 2, 2), [(0, 1)])

    def test_by_the_words(self):
        told = {}
        for world in WORLDS:
            for e in range(len(world[1])):
                for m in range(len(world[1])):
                    for u, v in squares_of(world, e, m):
                        found = lifts(world, e, m, u, v)
                        self.assertEqual(found, lifts_by_words(world, e, m, u, v))
                        told[min(len(found), 2)] = True
                    fills = fills_by_words(world, e, m)
                    self.assertIs(does_fill_against(world, e, m), fills)
                    told[fills, len(squares_of(world, e, m)) > 1] = True
        self.assertLessEqual({0, 1, 2}, set(told))
        self.assertLessEqual({(False, True), (True, True), (True, False), (False, False)}, set(told))

    def test_turnable_arrows(self):
        for world in WORLDS:
            turnable = turnable_by_words(world)
            for f in range(len(world[1])):
                for g in turnable:
                    self.assertTrue(does_fill_against(world, f, g))
                    self.assertTrue(does_fill_against(world, g, f))
                self.assertEqual(does_fill_against(world, f, f), f in turnable)

    def test_turned_worlds(self):
        for world in WORLDS:
            back = turned(world)
            for e in range(len(world[1])):
                for m in range(len(world[1])):
                    self.assertEqual(does_fill_against(world, e, m), does_fill_against(back, m, e))


class Sides(unittest.TestCase):

    def kinds(self, world, seed):
        arrows = range(len(world[1]))
        yield ()
        yield tuple(arrows)
        rng = random.Random(seed)
        for _ in range(6):
            yield tuple(f for f in arrows if rng.random() < 0.4)

    def test_by_hand(self):
        self.assertEqual(right_of(EMPTY, ()), ())
        self.assertEqual(right_of(CHAIN2, ()), (0, 1, 2))
        self.assertEqual(right_of(CHAIN2, (2,)), (0, 1))
        self.assertEqual(left_of(CHAIN2, (0, 1)), (0, 1, 2))
        # The arrow from 1 to 2 of a chain of three fills against those from 0, as there is no square of both.
        self.assertEqual(right_of(CHAIN3, (5,)), (0, 1, 2, 3, 4))
        self.assertEqual(left_of(CHAIN3, (5,)), (0, 1, 2, 3))
        self.assertEqual(right_of(CHAIN3, (3,)), (0, 1, 2, 5))

    def test_by_the_words(self):
        for world in WORLDS:
            for kind in self.kinds(world, 431):
                self.assertEqual(right_of(world, kind), right_by_words(world, kind))
                self.assertEqual(left_of(world, kind), left_by_words(world, kind))

    def test_of_none_of_all_and_of_what_they_return(self):
        for world in WORLDS:
            every = tuple(range(len(world[1])))
            self.assertEqual(right_of(world, ()), every)
            self.assertEqual(left_of(world, ()), every)
            self.assertEqual(right_of(world, every), turnable_kind(world))
            self.assertEqual(left_of(world, every), turnable_kind(world))
            for kind in self.kinds(world, 432):
                right = right_of(world, kind)
                self.assertLessEqual(set(kind), set(left_of(world, right)))
                self.assertEqual(right_of(world, left_of(world, right)), right)
                self.assertEqual(left_of(world, right_of(world, left_of(world, kind))), left_of(world, kind))

    def test_turnable_arrows_and_arrows_behind_one_another(self):
        for world in WORLDS:
            for kind in self.kinds(world, 433):
                for side in (right_of(world, kind), left_of(world, kind)):
                    self.assertLessEqual(set(turnable_kind(world)), set(side))
                    for f in side:
                        for g in side:
                            if world[2][f][g] >= 0:
                                self.assertIn(world[2][f][g], side)

    def test_the_turned_world(self):
        for world in WORLDS:
            for kind in self.kinds(world, 434):
                self.assertEqual(right_of(turned(world), kind), left_of(world, kind))
                self.assertEqual(left_of(turned(world), kind), right_of(world, kind))


class Parting(unittest.TestCase):

    def test_by_hand(self):
        self.assertEqual(parting_pairs(EMPTY), (((), ()),))
        self.assertEqual(parting_pairs(POINT), (((0,), (0,)),))
        self.assertEqual(parting_pairs(CHAIN2), (((0, 1), (0, 1, 2)), ((0, 1, 2), (0, 1))))
        self.assertEqual(parting_pairs(ring(3)), (((0, 1, 2), (0, 1, 2)),))
        self.assertEqual(parting_pairs(APART8), ((tuple(range(8)), tuple(range(8))),))
        # Each arrow of a fork is in the one kind or in the other one.
        self.assertEqual(parting_pairs(FORK), (((0, 1), (0, 1, 2, 3)), ((0, 1, 2), (0, 1, 3)),
                                               ((0, 1, 2, 3), (0, 1)), ((0, 1, 3), (0, 1, 2))))
        self.assertEqual(len(parting_pairs(CHAIN3)), len(parting_by_words(CHAIN3)))
        self.assertEqual(parted(CHAIN2, ((0, 1), (0, 1, 2)), 2), (0, 2))
        self.assertEqual(parted(CHAIN2, ((0, 1, 2), (0, 1)), 2), (2, 1))

    def test_by_trying_all_kinds(self):
        for world in WORLDS:
            found = parting_pairs(world)
            self.assertEqual(found, parting_by_words(world))
            every = tuple(range(len(world[1])))
            self.assertIn((turnable_kind(world), every), found)
            self.assertIn((every, turnable_kind(world)), found)

    def test_closed_kinds_that_do_not_part(self):
        # Kinds that are each other's left and right one, but do not make all arrows.
        world = loops([(0, 1, 2, 3, 4), (1, 1, 2, 3, 2), (2, 3, 3, 3, 2), (3, 3, 3, 3, 3), (4, 3, 3, 3, 4)])
        self.assertIsNone(world_breach(world))
        told = {(left_of(world, right_of(world, kind)), right_of(world, kind)) for kind in subsets(5)}
        self.assertEqual(sorted(told - set(parting_pairs(world))), [((0, 1), (0, 4))])
        self.assertEqual(parting_pairs(world), (((0,), (0, 1, 2, 3, 4)), ((0, 1, 2, 3, 4), (0,))))

    def test_twelve_arrows(self):
        self.assertEqual(len(parting_pairs(hand(2, [(0, 1)] * 12))), 4096)
        every = parting_pairs(hand(2, [(0, 1)] * 12))
        self.assertEqual(list(every), sorted(set(every)))
        self.assertEqual(raised(parting_pairs, hand(2, [(0, 1)] * 13)), TWELVE)
        self.assertEqual(raised(parting_pairs, chain_world(8)), TWELVE)
        # Still arrows do not count.
        self.assertEqual(len(parting_pairs(hand(8, [(0, 1)] * 12))), 4096)
        self.assertEqual(raised(parting_pairs, hand(8, [(0, 1)] * 13)), TWELVE)
        self.assertEqual(len(parting_pairs(ring(13))), 1)
        self.assertEqual(raised(parting_pairs, ring(14)), TWELVE)
        self.assertEqual(len(parting_pairs(chain_world(5))), len(parting_by_words(chain_world(5))))

    def test_parted_by_the_words_and_what_it_is_for(self):
        seen = 0
        for world in WORLDS:
            turnable = turnable_by_words(world)
            table = world[2]
            for left, right in parting_pairs(world):
                self.assertEqual(sorted(set(left) & set(right)), turnable)
                for f in range(len(world[1])):
                    pairs = [(e, m) for e in left for m in right if table[e][m] == f]
                    self.assertEqual(parted(world, (left, right), f), min(pairs))
                    for e, m in pairs:
                        for e2, m2 in pairs:
                            found = [d for d in range(len(world[1])) if table[e][d] == e2 and table[d][m2] == m
                                     and world[1][d] == (world[1][e][1], world[1][e2][1])]
                            self.assertEqual(len(found), 1)
                            self.assertIn(found[0], turnable)
                            seen += 1
                    for g in range(len(world[1])):
                        if table[f][g] >= 0:
                            if f in left and table[f][g] in left:
                                self.assertIn(g, left)
                            if g in right and table[f][g] in right:
                                self.assertIn(f, right)
        self.assertGreater(seen, 300)

    def test_sets_and_their_images(self):
        # Two sets of one and of two elements: each function is onto its image, and from there one-to-one.
        world = hand(2, [(0, 1), (0, 1), (1, 0), (1, 1), (1, 1), (1, 1)], functions())
        left = tuple(f for f in range(len(world[1])) if f in (0, 1, 4, 7))
        right = tuple(f for f in range(len(world[1])) if f in (0, 1, 2, 3, 7))
        self.assertIn((left, right), parting_pairs(world))
        self.assertEqual(parted(world, (left, right), 5), (4, 2))
        self.assertEqual(parted(world, (left, right), 6), (4, 3))
        self.assertEqual(parted(world, (left, right), 7), (1, 7))


def functions():
    """What the functions between {0} and {0, 1} make: 2 and 3 to 0 and 1, 4 back, 5 and 6 to 0 and 1, 7 exchanges."""
    rows = {2: (0,), 3: (1,), 4: (0, 0), 5: (0, 0), 6: (1, 1), 7: (1, 0)}
    ends = {2: (0, 1), 3: (0, 1), 4: (1, 0), 5: (1, 1), 6: (1, 1), 7: (1, 1)}
    still = {(0, (0,)): 0, (1, (0, 1)): 1}
    made = {}
    for f in rows:
        for g in rows:
            if ends[f][1] == ends[g][0]:
                row = tuple(rows[g][k] for k in rows[f])
                pair = (ends[f][0], ends[g][1])
                found = [h for h in rows if ends[h] == pair and rows[h] == row]
                made[f, g] = found[0] if found else still[pair[0], row]
    return made


class Calls(unittest.TestCase):

    def test_calls(self):
        check_calls(self, lifts, {"world": CHAIN3, "e": 3, "m": 5, "u": 3, "v": 5})
        check_calls(self, does_fill_against, {"world": CHAIN3, "e": 3, "m": 5})
        check_calls(self, right_of, {"world": CHAIN3, "kind": (3, 5)})
        check_calls(self, left_of, {"world": CHAIN3, "kind": (3, 5)})
        check_calls(self, parting_pairs, {"world": FORK})
        check_calls(self, parted, {"world": CHAIN2, "pair": ((0, 1), (0, 1, 2)), "f": 2})

    def test_how_long_it_takes(self):
        for world in random_worlds(435, 20, 14):
            self.check_all(world, 0.1)
        for world in (ring(40), band(40), null(40), chain_world(8), hand(2, [(0, 1)] * 38), product(BACK, ring(10)),
                      sum_of(ring(20), ring(20)), steps(40), APART8, hand(2, [(0, 1)] * 12), hand(8, [(0, 1)] * 12),
                      ring(13), band(13), null(13), TWO, SPLIT, EQUALIZED):
            self.check_all(world, 1)

    def check_all(self, world, limit):
        every = tuple(range(len(world[1])))
        for function in (right_of, left_of):
            self.assertLess(seconds(function, world, every), limit)
            self.assertLess(seconds(function, world, ()), limit)
        self.assertLess(seconds(parting_pairs, world), limit)
        for f in every[:3] + every[-3:]:
            self.assertLess(seconds(does_fill_against, world, f, f), limit)
            self.assertLess(seconds(parted, world, (every, turnable_kind(world)), f), limit)


if __name__ == "__main__":
    unittest.main()
