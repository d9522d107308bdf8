"""[47]: weightings, sizes, and rows of arrows in worlds without a way back."""

import itertools
import math
import random
import unittest
from fractions import Fraction

from arrowworlds import errors
from arrowworlds.alikes import skeleton
from arrowworlds.lots import element_world, single
from arrowworlds.made import product, sum_of
from arrowworlds.orders import chain_world, order_world
from arrowworlds.partners import right_partner
from arrowworlds.weights import chain_counts, size_of, weighting
from arrowworlds.worlds import turned
from tests.samples import (APART8, BACK, CHAIN2, CHAIN3, EMPTY, EQUALIZED, FORK, IDLE, POINT, SMALL, SPLIT, TWO, band,
                           between_by_words, check_calls, drawn_maps, hand, null, raised, random_worlds, ring, seconds)
from tests.test_cones import CROSS, SQUARE
from tests.test_lots import lots_over

ONE_WAY = (errors.NotOneWay, {})
WORLDS = SMALL + (SQUARE, CROSS) + tuple(random_worlds(470, 30, 12))


def rows_of(world):
    things = range(world[0])
    return [[len(between_by_words(world, x, y)) for y in things] for x in things]


def cleared(rows):
    """The rows of fractions, each first entry of a row cleared from all others, and how many such entries there are."""
    left = [[Fraction(a) for a in row] for row in rows]
    done = 0
    for k in range(len(rows)):
        found = [row for row in left[done:] if row[k] != 0]
        if found:
            pivot = found[0]
            left = [row for row in left if row is not pivot]
            left.insert(done, pivot)
            left = [row if row is pivot else [a - b * row[k] / pivot[k] for a, b in zip(row, pivot)] for row in left]
            done += 1
    return left, done


def has_solution(rows):
    """Whether some ratios solve all rows to 1, by plain fractions."""
    left, _ = cleared([row + [1] for row in rows])
    return all(any(a != 0 for a in row[:-1]) or row[-1] == 0 for row in left)


def has_one_solution(rows):
    """Whether no row of the numbers hangs on others."""
    return cleared(rows)[1] == len(rows)


def is_ratio(value):
    return type(value) is tuple and [type(a) for a in value] == [int, int] and value[1] >= 1 \
        and math.gcd(*value) == 1 and all(abs(a) < 10 ** 100 for a in value)


def weighs(world, weights):
    """Whether the ratios are a weighting of the world."""
    if len(weights) != world[0] or not all(is_ratio(weight) for weight in weights):
        return False
    return all(sum((many * Fraction(*weight) for many, weight in zip(row, weights)), Fraction(0)) == 1
               for row in rows_of(world))


def total(weights):
    found = sum((Fraction(*weight) for weight in weights), Fraction(0))
    return (found.numerator, found.denominator)


def plus(one, other):
    return total((one, other))


def times(one, other):
    found = Fraction(*one) * Fraction(*other)
    return (found.numerator, found.denominator)


class Weightings(unittest.TestCase):

    def test_by_hand(self):
        self.assertEqual(weighting(EMPTY), ())
        self.assertEqual(weighting(POINT), ((1, 1),))
        self.assertEqual(weighting(ring(3)), ((1, 3),))
        self.assertEqual(weighting(CHAIN3), ((0, 1), (0, 1), (1, 1)))
        self.assertEqual(weighting(FORK), ((-1, 1), (1, 1)))
        self.assertEqual(weighting(turned(FORK)), ((1, 1), (-1, 1)))
        self.assertEqual(weighting(hand(3, [(0, 1), (0, 2)])), ((-1, 1), (1, 1), (1, 1)))
        self.assertEqual(weighting(IDLE), ((1, 2),))
        self.assertEqual(weighting(SPLIT), ((0, 1), (1, 1)))

    def test_things_that_are_the_same(self):
        # Both together weigh 1, whichever weighs how much.
        self.assertTrue(weighs(BACK, weighting(BACK)))
        self.assertEqual(total(weighting(BACK)), (1, 1))

    def test_none(self):
        # From one thing there are twice as many arrows as from the other one, to each thing.
        self.assertEqual(rows_of(NONE), [[2, 4], [1, 2]])
        self.assertIsNone(weighting(NONE))
        self.assertIsNone(weighting(turned(NONE)))
        # Just as many from both, but not as many to both.
        self.assertEqual(rows_of(AHEAD), [[2, 3], [2, 3]])
        self.assertTrue(weighs(AHEAD, weighting(AHEAD)))
        self.assertIsNone(weighting(turned(AHEAD)))
        self.assertIsNone(weighting(sum_of(NONE, ring(3))))
        self.assertIsNone(weighting(sum_of(ring(3), NONE)))

    def test_it_weighs_each_thing_to_1(self):
        seen = {True: 0, False: 0}
        for world in WORLDS + (NONE, turned(NONE), AHEAD, turned(AHEAD), sum_of(NONE, ring(3)), APART8, chain_world(8)):
            weights = weighting(world)
            self.assertEqual(weights is not None, has_solution(rows_of(world)))
            if weights is not None:
                self.assertTrue(weighs(world, weights))
            seen[weights is None] += 1
        self.assertGreater(seen[False], 20)
        self.assertGreater(seen[True], 2)

    def test_great_numbers_of_arrows(self):
        rng = random.Random(471)
        for _ in range(60):
            world = flat_world(rng, 8, 32)
            self.assertTrue(weighs(world, weighting(world)))
            self.assertEqual(size_of(world), total(weighting(world)))
        for _ in range(40):
            rows = [[rng.randrange(1, 5) for _ in range(3)] for _ in range(3)]
            if sum(map(sum, rows)) <= 37:
                world = knot(rows)
                weights = weighting(world)
                self.assertEqual(weights is not None, has_solution(rows_of(world)))
                self.assertTrue(weights is None or weighs(world, weights))
        for world in (ring(40), band(40), null(40), sum_of(ring(20), sum_of(null(13), band(7)))):
            self.assertTrue(weighs(world, weighting(world)))

    def test_over_the_elements_of_a_lot(self):
        seen = 0
        for world in WORLDS:
            weights = weighting(world)
            for lot in lots_over(world):
                if weights is not None and raised(element_world, world, lot) is None:
                    told = tuple(weights[x] for x in range(world[0]) for _ in range(lot[0][x]))
                    self.assertTrue(weighs(element_world(world, lot), told))
                    self.assertIsNotNone(weighting(element_world(world, lot)))
                    seen += 1
        self.assertGreater(seen, 100)


def knot(rows):
    """The world with so many arrows that are not still between the things; what two of them make is the first one."""
    things = range(len(rows))
    ends = [(x, y) for x in things for y in things for _ in range(rows[x][y])]
    first = {pair: len(rows) + ends.index(pair) for pair in ends}
    places = list(enumerate(ends, len(rows)))
    return hand(len(rows), ends, {(f, g): first[pair[0], more[1]] for f, pair in places for g, more in places
                                  if pair[1] == more[0]})


# The numbers of arrows are 2, 4 and 1, 2; and 2, 3 and 2, 3.
NONE = knot(((1, 4), (1, 1)))
AHEAD = knot(((1, 3), (2, 2)))


def flat_world(rng, n, most):
    """A world of n things with at most so many arrows from the lower half of them to the upper one."""
    ends = [(rng.randrange(n // 2), rng.randrange(n // 2, n)) for _ in range(rng.randrange(most + 1))]
    return hand(n, sorted(ends))


class Sizes(unittest.TestCase):

    def test_by_hand(self):
        self.assertEqual(size_of(EMPTY), (0, 1))
        self.assertEqual(size_of(POINT), (1, 1))
        self.assertEqual(size_of(ring(7)), (1, 7))
        self.assertEqual(size_of(APART8), (8, 1))
        self.assertEqual(size_of(FORK), (0, 1))
        self.assertEqual(size_of(hand(2, [(0, 1)] * 5)), (-3, 1))
        self.assertEqual(size_of(sum_of(ring(2), ring(3))), (5, 6))
        self.assertEqual(size_of(BACK), (1, 1))
        self.assertEqual(size_of(AHEAD), None)
        self.assertEqual(size_of(turned(AHEAD)), None)
        self.assertEqual(size_of(NONE), None)

    def test_whichever_is_taken_and_on_whichever_side(self):
        seen = 0
        for world in WORLDS + (NONE, AHEAD, turned(AHEAD)):
            one, other = weighting(world), weighting(turned(world))
            if one is None or other is None:
                self.assertIsNone(size_of(world))
            else:
                self.assertTrue(is_ratio(size_of(world)))
                self.assertEqual(size_of(world), total(one))
                self.assertEqual(size_of(world), total(other))
                self.assertEqual(size_of(turned(world)), size_of(world))
                seen += 1
        self.assertGreater(seen, 30)

    def test_products_and_sums(self):
        some = SMALL + (CROSS, SQUARE)
        for one in some:
            for other in some:
                if one[0] + other[0] <= 8 and len(one[1]) + len(other[1]) <= 40:
                    self.assertEqual(size_of(sum_of(one, other)), plus(size_of(one), size_of(other)))
                if one[0] * other[0] <= 8 and len(one[1]) * len(other[1]) <= 40:
                    self.assertEqual(size_of(product(one, other)), times(size_of(one), size_of(other)))
        self.assertIsNone(size_of(sum_of(POINT, AHEAD)))
        self.assertIsNone(size_of(sum_of(NONE, POINT)))

    def test_alike_worlds(self):
        for world in WORLDS + (product(BACK, CHAIN2), sum_of(BACK, ring(3)), product(BACK, ring(10))):
            self.assertEqual(size_of(world), size_of(skeleton(world)))

    def test_worlds_with_an_end_or_a_beginning(self):
        seen = 0
        for world in WORLDS + (chain_world(8), order_world(4, ((0, 1), (0, 2), (0, 3)))):
            for told in (world, turned(world)):
                ends = [x for x in range(told[0]) if all(row[x] == 1 for row in rows_of(told))]
                if ends and size_of(world) is not None:
                    self.assertEqual(size_of(world), (1, 1))
                    seen += 1
        self.assertGreater(seen, 12)

    def test_worlds_with_a_partnership(self):
        rng = random.Random(473)
        seen = 0
        for one in WORLDS:
            for other in WORLDS:
                for along in drawn_maps(rng, one, other, 2):
                    if raised(right_partner, one, other, along) is None:
                        if right_partner(one, other, along) is not None and None not in (size_of(one), size_of(other)):
                            self.assertEqual(size_of(one), size_of(other))
                            seen += 1
        self.assertGreater(seen, 60)


def counts_by_words(world):
    """The numbers of rows of arrows, all listed one by one."""
    rest = range(world[0], len(world[1]))
    rows = [(f,) for f in rest]
    found = [world[0]] if world[0] else []
    while rows:
        found.append(len(rows))
        rows = [row + (g,) for row in rows for g in rest if world[1][row[-1]][1] == world[1][g][0]]
    return tuple(found)


def is_one_way(world):
    return not any(x == y for x, y in world[1][world[0]:]) and len(skeleton(world)[1]) == len(world[1])


class Chains(unittest.TestCase):

    def test_by_hand(self):
        self.assertEqual(chain_counts(EMPTY), ())
        self.assertEqual(chain_counts(POINT), (1,))
        self.assertEqual(chain_counts(APART8), (8,))
        self.assertEqual(chain_counts(CHAIN2), (2, 1))
        self.assertEqual(chain_counts(FORK), (2, 2))
        self.assertEqual(chain_counts(chain_world(4)), (4, 6, 4, 1))
        self.assertEqual(chain_counts(chain_world(8)), (8, 28, 56, 70, 56, 28, 8, 1))
        self.assertEqual(chain_counts(EQUALIZED), (3, 4, 2))
        self.assertEqual(chain_counts(hand(3, [(0, 1)] * 3 + [(1, 2)] * 2 + [(0, 2)],
                                           {(f, g): 8 for f in (3, 4, 5) for g in (6, 7)})), (3, 6, 6))

    def test_not_one_way(self):
        for world in (ring(2), IDLE, band(3), SPLIT, BACK, sum_of(CHAIN3, BACK), sum_of(POINT, IDLE),
                      product(BACK, CHAIN2), NONE):
            self.assertEqual(raised(chain_counts, world), ONE_WAY)
        # Loops alone, and things that are the same alone: in both nothing but a still arrow is lacking.
        self.assertTrue(any(x == y for x, y in SPLIT[1][2:]))
        self.assertFalse(any(x == y for x, y in BACK[1][2:]))

    def test_against_all_rows(self):
        seen = 0
        rng = random.Random(474)
        worlds = WORLDS + tuple(flat_world(rng, 6, 8) for _ in range(20)) + tuple(one_way_worlds(475, 40))
        for world in worlds:
            if is_one_way(world):
                counts = chain_counts(world)
                self.assertEqual(counts, counts_by_words(world))
                signed = sum(many * (-1) ** k for k, many in enumerate(counts))
                self.assertEqual(size_of(world), (signed, 1))
                self.assertTrue(has_one_solution(rows_of(world)))
                seen += 1
            else:
                self.assertEqual(raised(chain_counts, world), ONE_WAY)
        self.assertGreater(seen, 60)


def one_way_worlds(seed, many):
    """Orders, and webs in which all ways between two things are one."""
    rng = random.Random(seed)
    for _ in range(many):
        n = rng.randrange(1, 7)
        pairs = {(x, y) for x, y in itertools.combinations(range(n), 2) if rng.random() < 0.4}
        while True:
            more = {(x, w) for x, y in pairs for z, w in pairs if y == z} - pairs
            if not more:
                break
            pairs |= more
        yield order_world(n, tuple(sorted(pairs)))


class Calls(unittest.TestCase):

    def test_calls(self):
        check_calls(self, weighting, {"world": FORK})
        check_calls(self, weighting, {"world": NONE})
        check_calls(self, size_of, {"world": SPLIT})
        check_calls(self, chain_counts, {"world": CHAIN3})

    def test_how_long_it_takes(self):
        rng = random.Random(476)
        for world in random_worlds(477, 20, 14):
            self.check_all(world, 0.1)
        for world in (ring(40), band(40), null(40), chain_world(8), APART8, hand(2, [(0, 1)] * 38),
                      product(BACK, ring(10)), flat_world(rng, 8, 32), single_sum(), TWO):
            self.check_all(world, 1)

    def check_all(self, world, limit):
        for function in (weighting, size_of, chain_counts):
            self.assertLess(seconds(function, world), limit)


def single_sum():
    """Elements of a single lot over a chain of eight things: another chain."""
    return element_world(chain_world(8), single(chain_world(8), 0))


if __name__ == "__main__":
    unittest.main()
