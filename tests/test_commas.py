"""[24], [25]: worlds of cones, comma worlds, and best pairs, forks and corners."""

import random
import unittest

from arrowworlds import errors
from arrowworlds.arrows import is_sure
from arrowworlds.commas import (best_corner, best_fork, best_pair, comma, comma_sides, cone_world, corner_shape,
                                fork_shape, pair_shape)
from arrowworlds.cones import best_cone, ends_of
from arrowworlds.joins import are_copies
from arrowworlds.made import product, sum_of
from arrowworlds.maps import map_breach, still_map
from arrowworlds.orders import chain_world
from arrowworlds.worlds import turned, world_breach
from tests.samples import (APART8, BACK, CHAIN2, CHAIN3, EMPTY, EQUALIZED, FORK, IDLE, POINT, SMALL, SPLIT, TWO, band,
                           between_by_words, check_calls, drawn_maps, hand, named_world, null, raised, random_worlds,
                           ring, seconds)
from tests.test_cones import (CROSS, NOTHING, SHAPES, SQUARE, THREE, WORLDS, best_by_words, cones_by_words, constant,
                              drawings)

EIGHT = (errors.TooMany, {"limit": 8})
FORTY = (errors.TooMany, {"limit": 40})
THOUSAND = (errors.TooMany, {"limit": 1000})


def cone_world_by_names(shape, world, drawing):
    """The world of cones by its names, or the error that the numbers tell."""
    things = [(x,) + legs for x in range(world[0]) for legs in cones_by_words(shape, world, drawing, x)]
    if len(things) > 8:
        return EIGHT
    arrows = [(a, b, (u,)) for a in things for b in things for u in between_by_words(world, a[0], b[0])
              if all(world[2][u][leg] == entry for leg, entry in zip(b[1:], a[1:]))]
    if len(arrows) > 40:
        return FORTY
    return named_world(things, [(a, a, (a[0],)) for a in things], arrows, lambda f, g: (world[2][f[0]][g[0]],))


def comma_names(one, other, third, first, second):
    things = [(x, y, f) for x in range(one[0]) for y in range(other[0])
              for f in between_by_words(third, first[0][x], second[0][y])]
    if len(things) > 8:
        return EIGHT
    arrows = [(a, b, (g, h)) for a in things for b in things for g in between_by_words(one, a[0], b[0])
              for h in between_by_words(other, a[1], b[1])
              if third[2][first[1][g]][b[2]] == third[2][a[2]][second[1][h]]]
    return FORTY if len(arrows) > 40 else (things, arrows)


def comma_by_names(one, other, third, first, second):
    told = comma_names(one, other, third, first, second)
    if told in (EIGHT, FORTY):
        return told
    things, arrows = told
    return named_world(things, [(a, a, a[:2]) for a in things], arrows,
                       lambda a, b: (one[2][a[0]][b[0]], other[2][a[1]][b[1]]))


def made(function, *arguments):
    """What a call returns, or the error that it raises."""
    return raised(function, *arguments) or function(*arguments)


class ConeWorlds(unittest.TestCase):

    def test_by_hand(self):
        # The cones on 1 and 2 of the square from 0 alone: (0, 4, 5).
        self.assertEqual(cone_world(TWO, SQUARE, ((1, 2), (1, 2))), POINT)
        # On 3 alone there are (0, 6), (1, 7), (2, 8) and (3, 3): the square itself.
        self.assertEqual(cone_world(POINT, SQUARE, ((3,), (3,))), SQUARE)
        # (0, 3), (0, 4), (1, 1) of this fork: one arrow each from the first two to the last one.
        self.assertEqual(cone_world(POINT, FORK, ((1,), (1,))), hand(3, [(0, 2), (1, 2)]))
        # On two arrows to one thing of which both make the same with an arrow.
        self.assertEqual(cone_world(POINT, EQUALIZED, ((2,), (2,))),
                         hand(3, [(0, 1), (0, 1), (0, 2), (1, 2)], {(3, 6): 5, (4, 6): 5}))
        # (0, 0), (0, 1): from the first one 1, as 1 and then 1 is 1; 1 leads there and back, 0 to itself.
        self.assertEqual(cone_world(POINT, IDLE, ((0,), (0,))),
                         hand(2, [(1, 0), (1, 1)], {(3, 2): 2, (3, 3): 3}))
        self.assertEqual(cone_world(TWO, CROSS, ((2, 3), (2, 3))), TWO)
        self.assertEqual(cone_world(TWO, TWO, ((0, 1), (0, 1))), EMPTY)
        self.assertEqual(cone_world(POINT, ring(3), ((0,), (0,))), cone_world_by_names(POINT, ring(3), ((0,), (0,))))

    def test_the_empty_shape_and_worlds_without_a_thing(self):
        self.assertEqual(cone_world(EMPTY, EMPTY, NOTHING), EMPTY)
        for world in (POINT, CHAIN3, FORK, SPLIT, ring(40), APART8):
            self.assertEqual(cone_world(EMPTY, world, NOTHING), world)

    def test_by_names(self):
        found = {"world": 0, EIGHT[1]["limit"]: 0, 40: 0}
        for shape, world, drawing in drawings(130, WORLDS + (product(TWO, ring(4)), null(9), band(6)), 2):
            expected = cone_world_by_names(shape, world, drawing)
            self.assertEqual(made(cone_world, shape, world, drawing), expected)
            found[expected[1]["limit"] if expected in (EIGHT, FORTY) else "world"] += 1
            if expected not in (EIGHT, FORTY):
                self.assertIsNone(world_breach(expected))
                self.check_ends(shape, world, drawing, expected)
        self.assertGreater(min(found.values()), 2)

    def check_ends(self, shape, world, drawing, made_world):
        names = sorted((x,) + legs for x in range(world[0]) for legs in cones_by_words(shape, world, drawing, x))
        ends = [(names[k][0], names[k][1:]) for k in ends_of(made_world)]
        self.assertEqual(ends, best_by_words(shape, world, drawing))
        for a in ends_of(made_world):
            for b in ends_of(made_world):
                self.assertEqual(len(between_by_words(made_world, a, b)), 1)

    def test_no_other_error(self):
        # There are far more than a thousand cones.
        self.assertEqual(raised(cone_world, THREE, ring(11), constant(THREE, 0)), EIGHT)
        self.assertEqual(raised(cone_world, APART8, ring(40), constant(APART8, 0)), EIGHT)
        self.assertEqual(raised(cone_world, POINT, ring(9), constant(POINT, 0)), EIGHT)
        self.assertEqual(raised(cone_world, POINT, ring(8), constant(POINT, 0)), FORTY)
        self.assertEqual(raised(cone_world, POINT, ring(7), constant(POINT, 0)), FORTY)
        self.assertIsNone(raised(cone_world, POINT, ring(6), constant(POINT, 0)))
        self.assertEqual(raised(cone_world, POINT, hand(2, [(0, 1)] * 38), ((1,), (1,))), EIGHT)
        self.assertEqual(cone_world(POINT, hand(2, [(0, 1)] * 7), ((1,), (1,)))[0], 8)
        self.assertEqual(raised(cone_world, POINT, hand(2, [(0, 1)] * 8), ((1,), (1,))), EIGHT)

    def test_just_forty_arrows(self):
        world = chain_world(8)
        self.assertEqual(cone_world(POINT, world, ((7,), (7,))), world)
        self.assertEqual(len(cone_world(EMPTY, ring(40), NOTHING)[1]), 40)


class Commas(unittest.TestCase):

    def test_by_hand(self):
        # Of the still map and itself: a thing for each arrow, (0, 0, 0), (0, 1, 2) and (1, 1, 1).
        still = still_map(CHAIN2)
        self.assertEqual(comma(CHAIN2, CHAIN2, CHAIN2, still, still), CHAIN3)
        self.assertEqual(comma_sides(CHAIN2, CHAIN2, CHAIN2, still, still),
                         (((0, 0, 1), (0, 0, 1, 0, 2, 2)), ((0, 1, 1), (0, 1, 1, 2, 2, 1))))
        # Both things go to the thing 0, whose arrows are still: all pairs.
        flat = ((0, 0), (0, 0))
        self.assertEqual(comma(TWO, TWO, POINT, flat, flat), hand(4, []))
        self.assertEqual(comma_sides(TWO, TWO, POINT, flat, flat),
                         (((0, 0, 1, 1), (0, 0, 1, 1)), ((0, 1, 0, 1), (0, 1, 0, 1))))
        # From the thing 0 to the thing 1 of a fork lead two arrows, and none back.
        self.assertEqual(comma(POINT, POINT, FORK, ((0,), (0,)), ((1,), (1,))), TWO)
        self.assertEqual(comma(POINT, POINT, FORK, ((1,), (1,)), ((0,), (0,))), EMPTY)
        self.assertEqual(comma_sides(POINT, POINT, FORK, ((1,), (1,)), ((0,), (0,))), (NOTHING, NOTHING))
        self.assertEqual(comma(EMPTY, FORK, FORK, NOTHING, still_map(FORK)), EMPTY)
        self.assertEqual(comma(EMPTY, EMPTY, EMPTY, NOTHING, NOTHING), EMPTY)
        # The things are (0, 0, 0), (0, 1, 2), (0, 1, 3) and (1, 1, 1); (0, 2) leads from the first to the second one.
        self.assertEqual(comma(FORK, FORK, FORK, still_map(FORK), still_map(FORK)),
                         hand(4, [(0, 1), (0, 2), (0, 3), (0, 3), (1, 3), (2, 3)], {(4, 8): 6, (5, 9): 7}))

    def test_which_side_goes_first(self):
        # (0, 0, f) to (0, 0, g) by (h, k) asks for h.g = f.k, which a band tells from the turned one.
        for world in (band(3), turned(band(3)), null(3), SPLIT, EQUALIZED):
            still = still_map(world)
            self.assertEqual(made(comma, world, world, world, still, still),
                             comma_by_names(world, world, world, still, still))

    def test_by_names(self):
        rng = random.Random(131)
        found = {"world": 0, 8: 0, 40: 0}
        some = SMALL + tuple(random_worlds(132, 8, 8))
        for third in some:
            for _ in range(40):
                one, other = rng.choice(some), rng.choice(some)
                for first in drawn_maps(rng, one, third, 1):
                    for second in drawn_maps(rng, other, third, 1):
                        expected = comma_by_names(one, other, third, first, second)
                        arguments = (one, other, third, first, second)
                        self.assertEqual(made(comma, *arguments), expected)
                        found[expected[1]["limit"] if expected in (EIGHT, FORTY) else "world"] += 1
                        self.check_sides(arguments, expected)
        self.assertGreater(min(found.values()), 3)

    def check_sides(self, arguments, expected):
        one, other, third, first, second = arguments
        if expected in (EIGHT, FORTY):
            self.assertEqual(raised(comma_sides, *arguments), expected)
            return
        self.assertIsNone(world_breach(expected))
        ours, theirs = comma_sides(*arguments)
        self.assertIsNone(map_breach(expected, one, ours))
        self.assertIsNone(map_breach(expected, other, theirs))
        things, arrows = comma_names(*arguments)
        self.assertEqual(list(zip(ours[0], theirs[0])), [name[:2] for name in sorted(things)])
        self.assertEqual(sorted(zip(ours[1], theirs[1])), sorted(name for _, _, name in arrows))

    def test_of_still_maps_a_thing_for_each_arrow(self):
        for world in SMALL:
            still = still_map(world)
            if len(world[1]) <= 8 and raised(comma, world, world, world, still, still) is None:
                self.assertEqual(comma(world, world, world, still, still)[0], len(world[1]))

    def test_too_many(self):
        still = still_map(FORK)
        self.assertEqual(raised(comma, ring(2), ring(2), ring(9), ((0,), (0, 0)), ((0,), (0, 0))), EIGHT)
        flat = ((0,), (0,) * 9)
        for function in (comma, comma_sides):
            self.assertEqual(raised(function, ring(9), POINT, POINT, flat, ((0,), (0,))), None)
            self.assertEqual(raised(function, ring(9), ring(5), POINT, flat, ((0,), (0,) * 5)), FORTY)
            self.assertEqual(raised(function, ring(8), ring(5), POINT, ((0,), (0,) * 8), ((0,), (0,) * 5)), None)
            self.assertEqual(raised(function, POINT, POINT, ring(9), ((0,), (0,)), ((0,), (0,))), EIGHT)
            self.assertEqual(raised(function, POINT, POINT, ring(8), ((0,), (0,)), ((0,), (0,))), None)
            self.assertEqual(raised(function, THREE, THREE, POINT, constant(THREE, 0), constant(THREE, 0)), EIGHT)
            # Nine things with more than 40 arrows, and four with 4 times 16.
            self.assertEqual(raised(function, THREE, product(THREE, ring(5)), POINT, constant(THREE, 0),
                                    constant(product(THREE, ring(5)), 0)), EIGHT)
            double = product(TWO, ring(4))
            self.assertEqual(raised(function, double, double, POINT, constant(double, 0), constant(double, 0)), FORTY)
        self.assertEqual(comma(FORK, FORK, FORK, still, still)[0], 4)

    def test_just_forty_arrows(self):
        made_world = comma(ring(8), ring(5), POINT, ((0,), (0,) * 8), ((0,), (0,) * 5))
        self.assertEqual(made_world, product(ring(8), ring(5)))


class Shapes(unittest.TestCase):

    def test_shapes(self):
        self.assertEqual(pair_shape(), TWO)
        self.assertEqual(fork_shape(), FORK)
        self.assertEqual(corner_shape(), hand(3, [(0, 2), (1, 2)]))
        self.assertIn(corner_shape(), SHAPES)

    def test_pairs_by_hand(self):
        self.assertEqual(best_pair(SQUARE, 1, 2), (0, (4, 5)))
        self.assertEqual(best_pair(SQUARE, 2, 1), (0, (5, 4)))
        self.assertEqual(best_pair(SQUARE, 3, 3), (3, (3, 3)))
        self.assertIsNone(best_pair(CROSS, 2, 3))
        self.assertIsNone(best_pair(FORK, 1, 1))
        self.assertEqual(best_pair(FORK, 0, 0), (0, (0, 0)))

    def test_forks_by_hand(self):
        self.assertEqual(best_fork(SQUARE, 4, 4), (0, (0, 4)))
        self.assertIsNone(best_fork(FORK, 2, 3))
        self.assertEqual(best_fork(turned(EQUALIZED), 3, 4), (2, (6, 5)))
        self.assertEqual(best_fork(FORK, 3, 3), (0, (0, 3)))
        self.assertEqual(best_fork(SPLIT, 2, 0), (1, (4, 4)))
        self.assertEqual(best_fork(SPLIT, 0, 2), (1, (4, 4)))
        self.assertIsNone(best_fork(IDLE, 0, 1))

    def test_corners_by_hand(self):
        self.assertEqual(best_corner(SQUARE, 7, 8), (0, (4, 5, 6)))
        self.assertEqual(best_corner(SQUARE, 8, 7), (0, (5, 4, 6)))
        self.assertEqual(best_corner(SQUARE, 7, 3), (1, (1, 7, 7)))
        self.assertEqual(best_corner(SQUARE, 3, 7), (1, (7, 1, 7)))
        self.assertIsNone(best_corner(FORK, 2, 3))
        self.assertEqual(best_corner(FORK, 2, 2), (0, (0, 0, 2)))
        self.assertEqual(best_corner(FORK, 2, 1), (0, (0, 2, 2)))

    def test_by_words(self):
        found = {True: 0, False: 0}
        for world in WORLDS:
            arrows = range(len(world[1]))
            for x in range(world[0]):
                for y in range(world[0]):
                    found[self.check(best_pair(world, x, y), pair_shape(), world, ((x, y), (x, y)))] += 1
            for f in arrows:
                for g in arrows:
                    if world[1][f] == world[1][g]:
                        x, y = world[1][f]
                        best = best_fork(world, f, g)
                        found[self.check(best, fork_shape(), world, ((x, y), (x, y, f, g)))] += 1
                        self.assertTrue(best is None or is_sure(world, best[1][0]))
                    if world[1][f][1] == world[1][g][1]:
                        x, y, z = world[1][f][0], world[1][g][0], world[1][f][1]
                        best = best_corner(world, f, g)
                        found[self.check(best, corner_shape(), world, ((x, y, z), (x, y, z, f, g)))] += 1
                        if best is not None and is_sure(world, f):
                            self.assertTrue(is_sure(world, best[1][1]))
        self.assertGreater(min(found.values()), 200)

    def check(self, best, shape, world, drawing):
        every = best_by_words(shape, world, drawing)
        self.assertEqual(best, every[0] if every else None)
        self.assertEqual(best, best_cone(shape, world, drawing))
        return best is not None

    def test_a_world_with_all_pairs_is_an_order(self):
        seen = 0
        for world in WORLDS + (chain_world(8), product(CHAIN2, CHAIN3)):
            things = range(world[0])
            if all(best_pair(world, x, y) is not None for x in things for y in things):
                self.assertEqual(len(set(world[1])), len(world[1]))
                seen += 1
        self.assertGreater(seen, 3)

    def test_too_many(self):
        world = sum_of(POINT, ring(32))
        self.assertEqual(raised(best_pair, world, 1, 1), THOUSAND)
        self.assertEqual(best_pair(world, 0, 0), (0, (0, 0)))
        self.assertIsNone(best_pair(world, 0, 1))
        self.assertIsNone(best_pair(sum_of(POINT, ring(31)), 1, 1))
        # Two arrows of a null to one thing: all but the still arrow make 1 with both.
        self.assertEqual(raised(best_corner, null(34), 2, 3), THOUSAND)
        self.assertEqual(raised(best_corner, null(40), 2, 3), THOUSAND)
        self.assertIsNone(best_corner(null(20), 2, 3))
        self.assertIsNone(raised(best_fork, null(40), 2, 3))


class Calls(unittest.TestCase):

    def test_calls(self):
        check_calls(self, cone_world, {"shape": POINT, "world": EQUALIZED, "drawing": ((2,), (2,))})
        still = still_map(CHAIN2)
        case = {"one": CHAIN2, "other": FORK, "third": CHAIN2, "first": still, "second": ((0, 1), (0, 1, 2, 2))}
        check_calls(self, comma, case)
        check_calls(self, comma_sides, case)
        for function in (pair_shape, fork_shape, corner_shape):
            check_calls(self, function, {})
        check_calls(self, best_pair, {"world": SQUARE, "x": 1, "y": 2})
        check_calls(self, best_fork, {"world": turned(EQUALIZED), "f": 3, "g": 4})
        check_calls(self, best_corner, {"world": SQUARE, "f": 7, "g": 8})

    def test_copies(self):
        self.assertTrue(are_copies(comma(BACK, POINT, BACK, still_map(BACK), ((0,), (0,))), BACK))

    def test_how_long_it_takes(self):
        for shape, world, drawing in drawings(133, random_worlds(134, 8, 14), 1):
            self.assertLess(seconds(cone_world, shape, world, drawing), 0.1)
        for world in random_worlds(135, 10, 14):
            still = still_map(world)
            self.assertLess(seconds(comma, world, world, world, still, still), 0.1)
            self.assertLess(seconds(best_pair, world, 0, 0), 0.1)
        flat = ((0,), (0,) * 40)
        for world in (ring(40), band(40), null(40)):
            self.assertLess(seconds(comma, world, world, POINT, flat, flat), 1)
            self.assertLess(seconds(best_pair, world, 0, 0), 1)
            self.assertLess(seconds(best_corner, world, 1, 2), 1)
        self.assertLess(seconds(cone_world, APART8, ring(40), constant(APART8, 0)), 1)


if __name__ == "__main__":
    unittest.main()
