"""[15], [17]: how maps are counted before they are listed, and what is refused."""

import itertools
import time
import unittest

from arrowworlds import errors
from arrowworlds.families import map_world
from arrowworlds.made import product, sum_of
from arrowworlds.maps import maps_between
from arrowworlds.mapping import Mapping
from arrowworlds.orders import apart_world, chain_world
from arrowworlds.pieces import piece_world, pieces_of
from arrowworlds.worlds import world_breach
from tests.samples import (APART8, BACK, CHAIN2, CHAIN3, EMPTY, FORK, IDLE, POINT, SMALL, SPLIT, TWO, all_maps, band,
                           hand, is_map, null, raised, random_worlds, ring, shuffled)

THOUSAND = (errors.TooMany, {"limit": 1000})
EIGHT = (errors.TooMany, {"limit": 8})
FORTY = (errors.TooMany, {"limit": 40})


def sums(*worlds):
    """The sum of all these worlds."""
    found = EMPTY
    for world in worlds:
        found = sum_of(found, world)
    return found


class Pieces(unittest.TestCase):

    def test_by_hand(self):
        self.assertEqual(pieces_of(EMPTY), [])
        self.assertEqual(pieces_of(APART8), [[k] for k in range(8)])
        self.assertEqual(pieces_of(CHAIN3), [[0, 1, 2, 3, 4, 5]])
        self.assertEqual(pieces_of(sums(CHAIN2, POINT, ring(2))), [[0, 1, 4], [2], [3, 5]])
        # The thing 1 is apart from 0 and 2, and 3 hangs on both over 2.
        self.assertEqual(pieces_of(hand(4, [(0, 2), (3, 2)])), [[0, 2, 3, 4, 5], [1]])
        self.assertEqual(pieces_of(hand(5, [(3, 4), (0, 4), (1, 2)])), [[0, 3, 4, 5, 6], [1, 2, 7]])

    def test_their_worlds(self):
        self.assertEqual(piece_world(sums(CHAIN2, POINT, ring(2)), [0, 1, 4]), CHAIN2)
        self.assertEqual(piece_world(sums(CHAIN2, POINT, ring(2)), [2]), POINT)
        self.assertEqual(piece_world(sums(CHAIN2, POINT, ring(2)), [3, 5]), ring(2))
        for k, one in enumerate(SMALL):
            for other in SMALL:
                if one[0] + other[0] <= 8:
                    world, _ = shuffled(sum_of(one, other), k)
                    for arrows in pieces_of(world):
                        self.assertIsNone(world_breach(piece_world(world, arrows)))
                    self.assertEqual(sum(len(arrows) for arrows in pieces_of(world)), len(world[1]))


class Counts(unittest.TestCase):

    def check_let(self, one, other, many):
        found = maps_between(one, other)
        self.assertEqual(len(found), many)
        self.assertEqual(list(found), sorted(set(found)))
        self.assertTrue(all(is_map(one, other, *along) for along in found))
        self.assertEqual(Mapping(one, other, 1000).many, many)

    def check_refused(self, one, other):
        self.assertEqual(raised(maps_between, one, other), THOUSAND)
        self.assertEqual(raised(map_world, one, other), THOUSAND)

    def test_things_apart(self):
        for k in range(1, 9):
            for n in range(9):
                one, other = apart_world(k), apart_world(n)
                if n ** k > 1000:
                    self.check_refused(one, other)
                else:
                    expected = tuple((p, p) for p in itertools.product(range(n), repeat=k))
                    self.assertEqual(maps_between(one, other), expected)
                    self.assertEqual(Mapping(one, other, 1000).many, n ** k)
        # Things apart lead to all things, however many arrows there are.
        self.check_let(apart_world(3), chain_world(8), 512)
        self.check_refused(apart_world(4), chain_world(8))

    def test_rings(self):
        self.check_let(sums(ring(10), ring(10), ring(10)), ring(10), 1000)
        self.check_let(sums(ring(10), ring(10), ring(20)), ring(30), 1000)
        self.check_refused(sums(ring(7), ring(11), ring(13), ring(2)), sums(ring(7), ring(11), ring(13)))
        self.check_refused(sums(ring(11), ring(11), ring(11)), ring(11))
        self.check_let(sums(ring(8), ring(5), ring(25)), ring(40), 200)
        self.check_let(sums(ring(4), ring(5), ring(5), ring(10)), ring(20), 1000)
        self.check_refused(sums(ring(4), ring(5), ring(5), ring(10), ring(2)), ring(20))

    def test_rings_and_things_apart(self):
        # From ring(6): 6 to ring(6), and one to each other thing.
        target = sums(ring(6), apart_world(4))
        self.check_let(sums(ring(6), ring(6), ring(6)), target, 1000)
        self.check_refused(sums(ring(6), ring(6), ring(6), POINT), target)
        # 11 from ring(5), 13 from ring(7), 7 from a thing apart.
        target = sums(ring(5), ring(7), apart_world(5))
        self.check_refused(sums(ring(5), ring(7), POINT), target)
        self.check_refused(sums(POINT, ring(7), ring(5)), target)
        self.check_refused(sums(ring(7), POINT, ring(5)), target)
        self.check_let(sums(ring(7), ring(5)), target, 143)
        self.check_refused(sums(ring(11), ring(7), ring(5)), target)
        # 20 from ring(16), 6 from ring(2), 5 from a thing apart.
        target = sums(apart_world(4), ring(16))
        self.check_let(sums(ring(16), POINT, ring(2)), target, 600)
        self.check_refused(sums(ring(16), POINT, POINT, ring(2)), target)
        self.check_let(sums(POINT, POINT, POINT, ring(2)), target, 750)

    def test_worlds_of_other_sorts(self):
        # From CHAIN2 one for each arrow, from IDLE one for each idle one.
        target = sums(product(TWO, ring(2)), product(apart_world(4), IDLE), POINT)
        self.assertEqual((target[0], len(target[1])), (7, 13))
        self.check_let(sums(CHAIN2, IDLE), target, 143)
        for one in (sums(CHAIN2, IDLE, POINT), sums(POINT, CHAIN2, IDLE), sums(IDLE, POINT, CHAIN2)):
            self.check_refused(one, target)
        self.check_let(sums(CHAIN2, CHAIN2, CHAIN2), ring(10), 1000)
        self.check_refused(sums(CHAIN2, CHAIN2, CHAIN2), ring(11))
        self.check_let(sums(CHAIN2, ring(10), CHAIN2), ring(10), 1000)
        self.check_let(sums(FORK, ring(10)), ring(10), 1000)
        self.check_refused(sums(FORK, ring(11)), ring(11))
        # Of one piece: 1000 and 1331 rows of three arrows.
        self.check_let(hand(4, [(0, 1), (0, 2), (0, 3)]), ring(10), 1000)
        self.check_refused(hand(4, [(0, 1), (0, 2), (0, 3)]), ring(11))
        self.check_refused(band(40), band(40))
        self.assertEqual(len(maps_between(null(40), band(40))), 40)

    def test_pieces_in_any_sequence(self):
        seen = 0
        for k, one in enumerate(SMALL):
            for other in (POINT, CHAIN2, IDLE, BACK, ring(2)):
                if one[0] + other[0] <= 5:
                    world, _ = shuffled(sum_of(one, other), k)
                    for target in (CHAIN2, SPLIT, IDLE, sums(ring(2), POINT)):
                        if (len(world[1]) - world[0]) * len(target[1]) <= 24:
                            self.assertEqual(maps_between(world, target), all_maps(world, target))
                            seen += 1
        self.assertGreater(seen, 80)

    def test_many_maps_of_each_piece(self):
        # Each piece alone has fewer than 1000, or more.
        for one in (sums(FORK, FORK), sums(FORK, POINT, FORK), sums(band(3), FORK, CHAIN2)):
            self.check_refused(one, sums(ring(13), band(13), POINT))
        for world in random_worlds(150, 6, 10):
            self.check_refused(sums(band(4), *[POINT] * 4), sums(band(20), band(20)))
            self.assertEqual(maps_between(EMPTY, world), (((), ()),))
            self.assertEqual(maps_between(sums(world, POINT), EMPTY), ())


class Sequence(unittest.TestCase):

    def test_which_error_comes_first(self):
        for one, other, error in (
                (apart_world(4), apart_world(6), THOUSAND), (apart_world(4), apart_world(5), EIGHT),
                (apart_world(3), APART8, EIGHT), (TWO, apart_world(3), EIGHT), (POINT, APART8, None),
                (apart_world(3), TWO, None), (apart_world(4), TWO, EIGHT),
                # One map and 1331, 1000, 100 and 36 families.
                (apart_world(3), ring(11), THOUSAND), (apart_world(3), ring(10), FORTY), (TWO, ring(10), FORTY),
                (TWO, ring(6), None),
                # Eight maps, between which there are more than 1000 and more than 40 families; and nine maps.
                (apart_world(3), sums(ring(11), POINT), THOUSAND), (apart_world(3), sums(ring(10), POINT), FORTY),
                (TWO, sums(ring(40 - 2), POINT, POINT), EIGHT),
                # 13 times 13 times 13 maps to one thing each, which would be too many in all ways.
                (sums(ring(13), CHAIN2, CHAIN2), ring(13), THOUSAND), (sums(ring(13), CHAIN2), ring(13), EIGHT)):
            self.assertEqual(raised(map_world, one, other), error)

    def test_what_is_let(self):
        self.assertEqual(map_world(POINT, APART8), APART8)
        self.assertEqual(map_world(apart_world(3), TWO), APART8)
        self.assertEqual(map_world(EMPTY, CHAIN3), POINT)
        self.assertEqual(map_world(CHAIN3, EMPTY), EMPTY)


class Times(unittest.TestCase):

    def test_the_refusals_come_soon(self):
        # A third of what they took once, in thousandths of a second; they take far less than that now.
        for function, one, other, limit in (
                (maps_between, apart_world(4), apart_world(6), 3.4), (map_world, apart_world(4), apart_world(6), 2.1),
                (map_world, apart_world(4), apart_world(5), 1.5), (map_world, apart_world(3), APART8, 1.0)):
            self.assertLess(least_time(function, one, other) * 1000, limit / 3)


def least_time(function, *arguments):
    """The shortest time of several calls."""
    found = []
    for _ in range(20):
        start = time.perf_counter()
        raised(function, *arguments)
        found.append(time.perf_counter() - start)
    return min(found)


if __name__ == "__main__":
    unittest.main()
