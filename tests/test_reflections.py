"""[29]: reflecting parts and closures."""

import itertools
import unittest

from arrowworlds import errors
from arrowworlds.made import inclusion_of, part_of, product, sum_of
from arrowworlds.maps import map_breach
from arrowworlds.orders import apart_world, chain_world, order_world
from arrowworlds.partners import left_partner
from arrowworlds.reflections import closures, reflecting_parts, reflection
from arrowworlds.worlds import turned
from tests.samples import (APART8, BACK, CHAIN2, CHAIN3, EMPTY, EQUALIZED, FORK, IDLE, POINT, SMALL, SPLIT, TWO, band,
                           between_by_words, check_calls, hand, null, raised, random_worlds, ring, seconds, shuffled,
                           turnable_by_words)
from tests.test_cones import CROSS, SQUARE

NO_ORDER = (errors.NotOrder, {})
WORLDS = SMALL + (SQUARE, CROSS, product(BACK, CHAIN2), product(SPLIT, TWO)) + tuple(random_worlds(160, 25, 14))


def parts(world):
    return sorted(part for many in range(world[0] + 1) for part in itertools.combinations(range(world[0]), many))


def reflects(world, things, t, f):
    """Whether each arrow from where f leads from to one of the things is f.h for exactly one h."""
    x = world[1][f][0]
    return all(len([h for h in between_by_words(world, t, z) if world[2][f][h] == g]) == 1
               for z in things for g in between_by_words(world, x, z))


def reflection_by_words(world, things):
    found = []
    for x in range(world[0]):
        pairs = [(t, f) for t in things for f in between_by_words(world, x, t) if reflects(world, things, t, f)]
        if not pairs:
            return None
        found.append(min(pairs))
    return tuple(found)


def closures_by_words(world):
    """All closures of an order, by going through all rows of things."""
    found = []
    for p in itertools.product(range(world[0]), repeat=world[0]):
        arrows = [between_by_words(world, p[x], p[y]) for x, y in world[1]]
        if all(arrows) and all(between_by_words(world, x, p[x]) and p[p[x]] == p[x] for x in range(world[0])):
            found.append((p, tuple(row[0] for row in arrows)))
    return tuple(found)


def is_plain_order(world):
    """Whether the world is an order no two things of which are the same."""
    turnable = turnable_by_words(world)
    return len(set(world[1])) == len(world[1]) and all(f < world[0] for f in turnable)


class Reflections(unittest.TestCase):

    def test_by_hand(self):
        self.assertEqual(reflection(CHAIN3, (0, 2)), ((0, 0), (2, 5), (2, 2)))
        self.assertEqual(reflection(CHAIN3, (2,)), ((2, 4), (2, 5), (2, 2)))
        self.assertIsNone(reflection(CHAIN3, (0, 1)))
        self.assertEqual(reflection(CHAIN3, (0, 1, 2)), ((0, 0), (1, 1), (2, 2)))
        self.assertIsNone(reflection(FORK, (1,)))
        self.assertEqual(reflection(FORK, (0, 1)), ((0, 0), (1, 1)))
        # Each of two things that are the same will do; the least one is taken.
        self.assertEqual(reflection(BACK, (0, 1)), ((0, 0), (0, 3)))
        self.assertEqual(reflection(BACK, (1,)), ((1, 2), (1, 1)))
        self.assertEqual(reflection(SPLIT, (1,)), ((1, 3), (1, 1)))
        self.assertIsNone(reflection(SPLIT, (0,)))
        self.assertEqual(reflection(ring(3), (0,)), ((0, 0),))
        # From each thing the least of the arrows that turn back.
        self.assertEqual(reflection(product(BACK, ring(2)), (1,)), ((1, 3), (1, 1)))
        self.assertEqual(reflection(SQUARE, (1, 2, 3)), None)
        self.assertEqual(reflection(SQUARE, (1, 3)), ((1, 4), (1, 1), (3, 8), (3, 3)))

    def test_no_things(self):
        self.assertEqual(reflection(EMPTY, ()), ())
        self.assertEqual(reflecting_parts(EMPTY), ((),))
        for world in WORLDS:
            if world[0] > 0:
                self.assertIsNone(reflection(world, ()))
                self.assertNotIn((), reflecting_parts(world))

    def test_by_words(self):
        found = {True: 0, False: 0}
        for world in WORLDS:
            for things in parts(world):
                expected = reflection_by_words(world, things)
                self.assertEqual(reflection(world, things), expected)
                found[expected is not None] += 1
        self.assertGreater(min(found.values()), 50)

    def test_parts_by_going_through_all_subsets(self):
        for world in WORLDS:
            expected = [things for things in parts(world) if reflection_by_words(world, things) is not None]
            self.assertEqual(reflecting_parts(world), tuple(expected))

    def test_parts_by_hand(self):
        self.assertEqual(reflecting_parts(CHAIN3), ((0, 1, 2), (0, 2), (1, 2), (2,)))
        self.assertEqual(reflecting_parts(BACK), ((0,), (0, 1), (1,)))
        self.assertEqual(reflecting_parts(TWO), ((0, 1),))
        self.assertEqual(reflecting_parts(CROSS), ((0, 1, 2, 3),))
        self.assertEqual(reflecting_parts(IDLE), ((0,),))

    def test_the_inclusion_has_a_left_partner(self):
        seen = {True: 0, False: 0}
        for world in WORLDS:
            for things in parts(world):
                part = (part_of(world, things), world, inclusion_of(world, things))
                if raised(left_partner, *part) is None:
                    expected = reflection(world, things) is not None
                    self.assertIs(left_partner(*part) is not None, expected)
                    seen[expected] += 1
        self.assertGreater(min(seen.values()), 50)


class Closures(unittest.TestCase):

    def test_by_hand(self):
        self.assertEqual(closures(EMPTY), (((), ()),))
        self.assertEqual(closures(POINT), (((0,), (0,)),))
        self.assertEqual(closures(CHAIN2), (((0, 1), (0, 1, 2)), ((1, 1), (1, 1, 1))))
        self.assertEqual(closures(CHAIN3), (((0, 1, 2), (0, 1, 2, 3, 4, 5)), ((0, 2, 2), (0, 2, 2, 4, 4, 2)),
                                            ((1, 1, 2), (1, 1, 2, 1, 5, 5)), ((2, 2, 2), (2, 2, 2, 2, 2, 2))))
        self.assertEqual(closures(turned(CHAIN2)), (((0, 0), (0, 0, 0)), ((0, 1), (0, 1, 2))))
        self.assertEqual(closures(TWO), (((0, 1), (0, 1)),))

    def test_by_going_through_all_rows(self):
        seen = 0
        orders = [world for world in WORLDS if is_plain_order(world)]
        orders += [order_world(5, ((0, 2), (0, 3), (0, 4), (1, 2), (1, 3), (1, 4), (2, 4), (3, 4))),
                   order_world(4, ((2, 0), (2, 1), (3, 0), (3, 1), (3, 2))), chain_world(5), product(CHAIN2, CHAIN3),
                   sum_of(CHAIN3, CHAIN2)]
        orders += [shuffled(world, k)[0] for k, world in enumerate(orders)]
        for world in orders:
            expected = closures_by_words(world)
            self.assertEqual(closures(world), expected)
            self.assertEqual(len(expected), len(reflecting_parts(world)))
            for along in expected:
                self.assertIsNone(map_breach(world, world, along))
            seen += len(expected)
        self.assertGreater(seen, 100)

    def test_no_order(self):
        refused = 0
        for world in WORLDS + (ring(2), IDLE, FORK, sum_of(CHAIN2, FORK), sum_of(BACK, CHAIN3)):
            if is_plain_order(world):
                self.assertIsNone(raised(closures, world))
            else:
                self.assertEqual(raised(closures, world), NO_ORDER)
                refused += 1
        self.assertGreater(refused, 20)
        # Orders two things of which are the same.
        self.assertEqual(raised(closures, BACK), NO_ORDER)
        self.assertEqual(raised(closures, product(BACK, CHAIN2)), NO_ORDER)
        # No order, though no two things are the same.
        for world in (FORK, IDLE, SPLIT, EQUALIZED, band(3), null(40)):
            self.assertEqual(raised(closures, world), NO_ORDER)

    def test_great_ones(self):
        eight = chain_world(8)
        self.assertEqual(len(closures(eight)), 128)
        self.assertEqual(len(reflecting_parts(eight)), 128)
        self.assertTrue(all(part[-1] == 7 for part in reflecting_parts(eight)))
        self.assertEqual(list(closures(eight)), sorted(set(closures(eight))))
        self.assertEqual(closures(APART8), ((tuple(range(8)), tuple(range(8))),))
        self.assertEqual(reflecting_parts(APART8), (tuple(range(8)),))
        cube = product(CHAIN2, product(CHAIN2, CHAIN2))
        # The closures of a cube are the families of sets on three points that are closed under meets and have all.
        self.assertEqual(len(closures(cube)), 61)
        self.assertEqual(len(closures(turned(cube))), 61)
        for world in (eight, APART8, cube, product(apart_world(8), ring(5)), ring(40)):
            self.assertLess(seconds(reflecting_parts, world), 1)
            self.assertLess(seconds(closures, world), 1)
            self.assertLess(seconds(reflection, world, (0,)), 1)


class Calls(unittest.TestCase):

    def test_calls(self):
        check_calls(self, reflection, {"world": CHAIN3, "things": (0, 2)})
        check_calls(self, reflecting_parts, {"world": SQUARE})
        check_calls(self, closures, {"world": SQUARE})

    def test_how_long_it_takes(self):
        for world in random_worlds(161, 20, 14):
            self.assertLess(seconds(reflecting_parts, world), 0.1)
            self.assertLess(seconds(closures, world), 0.1)
        self.assertLess(seconds(closures, hand(8, [(k, 7) for k in range(7)])), 1)


if __name__ == "__main__":
    unittest.main()
