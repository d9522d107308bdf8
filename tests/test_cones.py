"""[22], [23], and does_keep of [25]: cones, best ones and their rivals."""

import random
import unittest

from arrowworlds import errors
from arrowworlds.cones import begins_of, best_cocone, best_cone, cones, does_keep, ends_of, rival_of
from arrowworlds.families import families
from arrowworlds.made import product, sum_of
from arrowworlds.maps import behind, does_fill, is_faithful, is_full, maps_between, still_map
from arrowworlds.worlds import turned
from tests.samples import (APART8, BACK, CHAIN2, CHAIN3, EMPTY, EQUALIZED, FORK, IDLE, POINT, SMALL, SPLIT, TWO, band,
                           between_by_words, check_calls, drawn_maps, families_by_words, hand, null, raised,
                           random_worlds, ring, seconds, shuffled)

THOUSAND = (errors.TooMany, {"limit": 1000})
THREE = hand(3, [])
CORNER = hand(3, [(0, 2), (1, 2)])
NOTHING = ((), ())
# 0 below 1 and 2, these below 3.
SQUARE = hand(4, [(0, 1), (0, 2), (0, 3), (1, 3), (2, 3)], {(4, 7): 6, (5, 8): 6})
# Two things below 2 and 3 alike: these have no best one beneath them.
CROSS = hand(4, [(0, 2), (0, 3), (1, 2), (1, 3)])
SHAPES = (EMPTY, POINT, TWO, CHAIN2, FORK, CORNER, CHAIN3, BACK, IDLE, ring(2), THREE)


def constant(shape, x):
    return ((x,) * shape[0], (x,) * len(shape[1]))


def cones_by_words(shape, world, drawing, x):
    return families_by_words(shape, world, constant(shape, x), drawing)


def arrows_by_words(world, y, cone, x, legs):
    return tuple(u for u in between_by_words(world, y, x)
                 if all(world[2][u][leg] == entry for leg, entry in zip(legs, cone)))


def rival_by_words(shape, world, drawing, x, legs):
    for y in range(world[0]):
        for cone in cones_by_words(shape, world, drawing, y):
            arrows = arrows_by_words(world, y, cone, x, legs)
            if len(arrows) != 1:
                return (y, cone, arrows)
    return None


def best_by_words(shape, world, drawing):
    return [(x, legs) for x in range(world[0]) for legs in cones_by_words(shape, world, drawing, x)
            if rival_by_words(shape, world, drawing, x, legs) is None]


def drawings(seed, worlds, many):
    rng = random.Random(seed)
    return [(shape, world, drawing) for world in worlds for shape in SHAPES
            for drawing in sorted(set(drawn_maps(rng, shape, world, many)))]


WORLDS = SMALL + (SQUARE, CROSS) + tuple(random_worlds(110, 20, 11))


class Cones(unittest.TestCase):

    def test_by_hand(self):
        self.assertEqual(cones(TWO, CHAIN3, ((1, 2), (1, 2)), 0), ((3, 4),))
        self.assertEqual(cones(TWO, CHAIN3, ((1, 2), (1, 2)), 1), ((1, 5),))
        self.assertEqual(cones(TWO, CHAIN3, ((1, 2), (1, 2)), 2), ())
        self.assertEqual(cones(TWO, FORK, ((1, 1), (1, 1)), 0), ((2, 2), (2, 3), (3, 2), (3, 3)))
        self.assertEqual(cones(CHAIN2, FORK, ((0, 1), (0, 1, 2)), 0), ((0, 2),))
        self.assertEqual(cones(CHAIN2, FORK, ((1, 1), (1, 1, 1)), 0), ((2, 2), (3, 3)))
        # Legs to both ends of the arrows 3 and 4, by which 6 makes the same of them.
        self.assertEqual(cones(FORK, turned(EQUALIZED), ((1, 0), (1, 0, 3, 4)), 2), ((6, 5),))
        self.assertEqual(cones(FORK, turned(EQUALIZED), ((1, 0), (1, 0, 3, 4)), 1), ())

    def test_the_empty_shape(self):
        for world in SMALL:
            for x in range(world[0]):
                self.assertEqual(cones(EMPTY, world, NOTHING, x), ((),))

    def test_by_words(self):
        seen = 0
        for shape, world, drawing in drawings(111, WORLDS, 3):
            for x in range(world[0]):
                found = cones(shape, world, drawing, x)
                self.assertEqual(found, cones_by_words(shape, world, drawing, x))
                self.assertEqual(found, families(shape, world, constant(shape, x), drawing))
                seen += len(found)
        self.assertGreater(seen, 1000)

    def test_at_most_a_thousand(self):
        found = cones(THREE, ring(10), constant(THREE, 0), 0)
        self.assertEqual(found, tuple((a, b, c) for a in range(10) for b in range(10) for c in range(10)))
        self.assertEqual(len(cones(TWO, ring(31), constant(TWO, 0), 0)), 961)
        self.assertEqual(raised(cones, TWO, ring(32), constant(TWO, 0), 0), THOUSAND)
        self.assertEqual(raised(cones, THREE, ring(11), constant(THREE, 0), 0), THOUSAND)
        # Only the cones from the thing that is asked for count.
        world = sum_of(ring(11), POINT)
        self.assertEqual(cones(THREE, world, constant(THREE, 0), 1), ())
        self.assertEqual(raised(cones, THREE, world, constant(THREE, 0), 0), THOUSAND)

    def test_with_turnable_shapes(self):
        # A leg to one of two things that are the same tells the other one.
        world = product(BACK, ring(5))
        self.assertEqual(len(cones(BACK, world, ((0, 1), (0, 1, 6, 11)), 0)), 5)


class Ends(unittest.TestCase):

    def check(self, world, ends, begins):
        self.assertEqual(ends_of(world), ends)
        self.assertEqual(begins_of(world), begins)
        self.assertEqual(ends_of(turned(world)), begins)
        self.assertEqual(begins_of(turned(world)), ends)

    def test_by_hand(self):
        self.check(EMPTY, (), ())
        self.check(POINT, (0,), (0,))
        self.check(CHAIN3, (2,), (0,))
        self.check(BACK, (0, 1), (0, 1))
        self.check(TWO, (), ())
        self.check(FORK, (), ())
        self.check(SPLIT, (1,), (1,))
        self.check(IDLE, (), ())
        self.check(ring(2), (), ())
        self.check(SQUARE, (3,), (0,))
        self.check(CROSS, (), ())
        self.check(EQUALIZED, (2,), ())
        self.check(hand(2, [(1, 0)]), (0,), (1,))
        self.check(hand(3, [(0, 2), (1, 2)]), (2,), ())

    def test_by_words(self):
        for world in random_worlds(112, 60, 12):
            things = range(world[0])
            self.check(world, tuple(x for x in things if all(len(between_by_words(world, y, x)) == 1 for y in things)),
                       tuple(x for x in things if all(len(between_by_words(world, x, y)) == 1 for y in things)))


class Best(unittest.TestCase):

    def test_by_hand(self):
        self.assertEqual(best_cone(TWO, SQUARE, ((1, 2), (1, 2))), (0, (4, 5)))
        self.assertEqual(best_cone(TWO, SQUARE, ((1, 3), (1, 3))), (1, (1, 7)))
        self.assertEqual(best_cocone(TWO, SQUARE, ((1, 2), (1, 2))), (3, (7, 8)))
        self.assertIsNone(best_cone(TWO, CROSS, ((2, 3), (2, 3))))
        self.assertIsNone(best_cocone(TWO, CROSS, ((0, 1), (0, 1))))
        self.assertIsNone(best_cone(TWO, TWO, ((0, 1), (0, 1))))
        self.assertEqual(best_cone(TWO, TWO, ((0, 0), (0, 0))), (0, (0, 0)))
        self.assertIsNone(best_cone(TWO, FORK, ((1, 1), (1, 1))))
        self.assertEqual(best_cone(TWO, BACK, ((0, 0), (0, 0))), (0, (0, 0)))
        self.assertEqual(best_cone(TWO, BACK, ((1, 1), (1, 1))), (0, (2, 2)))
        self.assertEqual(best_cone(FORK, turned(EQUALIZED), ((1, 0), (1, 0, 3, 4))), (2, (6, 5)))
        self.assertEqual(best_cocone(FORK, EQUALIZED, ((0, 1), (0, 1, 3, 4))), (2, (5, 6)))
        self.assertIsNone(best_cone(FORK, FORK, ((0, 1), (0, 1, 2, 3))))
        self.assertIsNone(best_cone(EMPTY, EMPTY, NOTHING))
        self.assertEqual(best_cone(IDLE, SPLIT, ((0,), (0, 2))), (1, (4,)))
        self.assertEqual(best_cocone(IDLE, SPLIT, ((0,), (0, 2))), (1, (3,)))
        self.assertIsNone(best_cone(IDLE, IDLE, ((0,), (0, 1))))

    def test_the_empty_shape_asks_for_ends(self):
        for world in WORLDS:
            ends, begins = ends_of(world), begins_of(world)
            self.assertEqual(best_cone(EMPTY, world, NOTHING), (ends[0], ()) if ends else None)
            self.assertEqual(best_cocone(EMPTY, world, NOTHING), (begins[0], ()) if begins else None)

    def test_by_words(self):
        found = {True: 0, False: 0}
        for shape, world, drawing in drawings(113, WORLDS, 2):
            best = best_by_words(shape, world, drawing)
            self.assertEqual(best_cone(shape, world, drawing), best[0] if best else None)
            found[len(best) > 0] += 1
            back = best_by_words(turned(shape), turned(world), drawing)
            self.assertEqual(best_cocone(shape, world, drawing), back[0] if back else None)
        self.assertGreater(min(found.values()), 100)

    def test_the_least_of_several(self):
        several = 0
        worlds = (product(BACK, ring(3)), product(SPLIT, ring(2)), product(BACK, CHAIN2))
        for world in worlds + (shuffled(product(BACK, SPLIT), 1)[0],):
            for shape, _, drawing in drawings(114, (world,), 3):
                best = best_by_words(shape, world, drawing)
                self.assertEqual(best_cone(shape, world, drawing), min(best) if best else None)
                several += len(best) > 1
        self.assertGreater(several, 20)

    def test_too_many_for_any_thing(self):
        # From the thing 0 there is no cone, or one: from the other thing there are too many.
        world = sum_of(POINT, ring(11))
        self.assertEqual(raised(best_cone, THREE, world, constant(THREE, 1)), THOUSAND)
        self.assertEqual(raised(best_cocone, THREE, world, constant(THREE, 1)), THOUSAND)
        self.assertEqual(raised(rival_of, THREE, world, constant(THREE, 1), 1, (1, 1, 1)), THOUSAND)
        many = hand(2, [(1, 0)] * 11)
        self.assertEqual(best_cone(THREE, turned(many), constant(THREE, 0)), (0, (0, 0, 0)))
        self.assertEqual(raised(best_cone, THREE, many, constant(THREE, 0)), THOUSAND)
        self.assertEqual(raised(best_cocone, THREE, turned(many), constant(THREE, 0)), THOUSAND)
        # Ahead of it stands a rival from the thing 0.
        before = hand(3, [(0, 1), (0, 1)] + [(2, 1)] * 11)
        self.assertEqual(rival_of(TWO, before, ((1, 1), (1, 1)), 1, (1, 1)), (0, (3, 4), ()))
        self.assertEqual(raised(rival_of, THREE, before, constant(THREE, 1), 1, (1, 1, 1)), THOUSAND)
        ten = hand(2, [(1, 0)] * 10)
        self.assertIsNone(best_cone(THREE, ten, constant(THREE, 0)))
        self.assertEqual(rival_of(THREE, ten, constant(THREE, 0), 0, (0, 0, 0)), (1, (2, 2, 3), ()))


class Rivals(unittest.TestCase):

    def test_by_hand(self):
        self.assertIsNone(rival_of(TWO, SQUARE, ((1, 2), (1, 2)), 0, (4, 5)))
        self.assertEqual(rival_of(TWO, CROSS, ((2, 3), (2, 3)), 0, (4, 5)), (1, (6, 7), ()))
        self.assertEqual(rival_of(TWO, CROSS, ((2, 3), (2, 3)), 1, (6, 7)), (0, (4, 5), ()))
        # From a thing two arrows lead to the cone.
        self.assertEqual(rival_of(POINT, EQUALIZED, ((2,), (2,)), 1, (6,)), (0, (5,), (3, 4)))
        self.assertIsNone(rival_of(POINT, EQUALIZED, ((2,), (2,)), 2, (2,)))
        self.assertEqual(rival_of(POINT, EQUALIZED, ((2,), (2,)), 0, (5,)), (1, (6,), ()))
        self.assertEqual(rival_of(EMPTY, ring(3), NOTHING, 0, ()), (0, (), (0, 1, 2)))
        self.assertEqual(rival_of(EMPTY, TWO, NOTHING, 0, ()), (1, (), ()))
        self.assertEqual(rival_of(POINT, IDLE, ((0,), (0,)), 0, (1,)), (0, (0,), ()))
        self.assertEqual(rival_of(POINT, null(4), ((0,), (0,)), 0, (1,)), (0, (0,), ()))
        self.assertEqual(rival_of(POINT, turned(band(4)), ((0,), (0,)), 0, (2,)), (0, (0,), ()))

    def test_by_words(self):
        none = several = empty = 0
        for shape, world, drawing in drawings(115, WORLDS, 2):
            for x in range(world[0]):
                for legs in cones(shape, world, drawing, x)[:6]:
                    expected = rival_by_words(shape, world, drawing, x, legs)
                    self.assertEqual(rival_of(shape, world, drawing, x, legs), expected)
                    none += expected is None
                    several += expected is not None and len(expected[2]) > 1
                    empty += expected is not None and len(expected[2]) == 0
        self.assertGreater(min(none, several, empty), 50)


class Keeping(unittest.TestCase):

    def words(self, one, other, along, shape, drawing):
        there = behind(drawing, along)
        return all(rival_by_words(shape, other, there, along[0][x], tuple(along[1][leg] for leg in legs)) is None
                   for x, legs in best_by_words(shape, one, drawing))

    def test_by_hand(self):
        self.assertIs(does_keep(SQUARE, SQUARE, still_map(SQUARE), TWO, ((1, 2), (1, 2))), True)
        # Three things of a chain: the map that takes the square to it with 1 and 2 to its middle.
        flat = ((0, 1, 1, 2), (0, 1, 1, 2, 3, 3, 4, 5, 5))
        self.assertIs(does_keep(SQUARE, CHAIN3, flat, TWO, ((1, 2), (1, 2))), False)
        self.assertIs(does_keep(SQUARE, CHAIN3, flat, TWO, ((0, 1), (0, 1))), True)
        self.assertIs(does_keep(POINT, CHAIN2, ((0,), (0,)), EMPTY, NOTHING), False)
        self.assertIs(does_keep(POINT, CHAIN2, ((1,), (1,)), EMPTY, NOTHING), True)
        # There is no best one to be kept.
        self.assertIs(does_keep(TWO, CHAIN2, ((0, 1), (0, 1)), EMPTY, NOTHING), True)
        self.assertIs(does_keep(CROSS, POINT, ((0,) * 4, (0,) * 8), TWO, ((2, 3), (2, 3))), True)

    def test_by_words(self):
        found = {True: 0, False: 0}
        rng = random.Random(116)
        for shape, one, drawing in drawings(117, WORLDS[:20], 2):
            for other in (SPLIT, CHAIN3, SQUARE, IDLE, FORK):
                for along in drawn_maps(rng, one, other, 1):
                    expected = self.words(one, other, along, shape, drawing)
                    self.assertIs(does_keep(one, other, along, shape, drawing), expected)
                    found[expected] += 1
        self.assertGreater(min(found.values()), 100)

    def test_a_map_that_fills_and_is_full_and_faithful_keeps_them(self):
        for one in (POINT, SPLIT, BACK):
            for other in (BACK, SPLIT, product(BACK, SPLIT)):
                for along in maps_between(one, other):
                    if is_full(one, other, along) and is_faithful(one, other, along) and does_fill(one, other, along):
                        for shape, _, drawing in drawings(118, (one,), 2):
                            self.assertTrue(does_keep(one, other, along, shape, drawing))

    def test_too_many(self):
        many = sum_of(POINT, ring(11))
        first, second = constant(THREE, 0), constant(THREE, 1)
        self.assertEqual(raised(does_keep, many, POINT, ((0, 0), (0,) * 12), THREE, second), THOUSAND)
        # In the world other, also where there is no best cone in one.
        there = ((1, 1), (1, 1))
        self.assertIsNone(best_cone(THREE, TWO, ((0, 1, 0), (0, 1, 0))))
        self.assertEqual(raised(does_keep, TWO, many, there, THREE, ((0, 1, 0), (0, 1, 0))), THOUSAND)
        self.assertEqual(raised(does_keep, POINT, many, ((1,), (1,)), THREE, first), THOUSAND)
        self.assertIs(does_keep(POINT, many, ((0,), (0,)), THREE, first), True)


class Calls(unittest.TestCase):

    def test_calls(self):
        case = {"shape": TWO, "world": SQUARE, "drawing": ((1, 2), (1, 2))}
        check_calls(self, cones, {**case, "x": 0})
        check_calls(self, best_cone, case)
        check_calls(self, best_cocone, case)
        check_calls(self, rival_of, {**case, "x": 0, "legs": (4, 5)})
        check_calls(self, rival_of, {"shape": TWO, "world": CROSS, "drawing": ((2, 3), (2, 3)), "x": 0, "legs": (4, 5)})
        check_calls(self, ends_of, {"world": SPLIT})
        check_calls(self, begins_of, {"world": SPLIT})
        check_calls(self, does_keep, {"one": SQUARE, "other": SQUARE, "along": still_map(SQUARE), "shape": TWO,
                                      "drawing": ((1, 2), (1, 2))})

    def test_how_long_it_takes(self):
        for shape, world, drawing in drawings(119, random_worlds(120, 10, 14), 1):
            for function in (best_cone, best_cocone):
                self.assertLess(seconds(function, shape, world, drawing), 0.1)
        self.assertLess(seconds(best_cone, THREE, ring(10), constant(THREE, 0)), 1)
        self.assertLess(seconds(best_cone, APART8, APART8, still_map(APART8)), 1)
        # A thousand cones from each of four things.
        four = product(BACK, product(TWO, ring(5)))
        self.assertEqual(len(four[1]), 40)
        self.assertLess(seconds(best_cone, hand(4, []), four, constant(hand(4, []), 0)), 1)


if __name__ == "__main__":
    unittest.main()
