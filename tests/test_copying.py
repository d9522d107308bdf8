"""[9]: copies of great worlds, what they are found by, and how long that takes."""

import time
import unittest

from arrowworlds import errors
from arrowworlds.bits import bits_of
from arrowworlds.copying import (PATIENCE, all_copies, level_movers, levels_of, movers_by_level, movers_to, one_copy,
                                 put_behind, self_movers)
from arrowworlds.joins import are_copies, copies
from arrowworlds.leading import Leading, landing_of
from arrowworlds.made import product, sum_of
from arrowworlds.orders import apart_world, chain_world, loop_world
from arrowworlds.shades import alike_arrows, traits_of
from arrowworlds.worlds import turned, world_breach
from tests.samples import (APART8, CHAIN3, EMPTY, FORK, POINT, SMALL, TWO, all_copies as copies_by_trying, band, cycles,
                           graph, is_map, null, raised, random_worlds, ring, shuffled)

THOUSAND = (errors.TooMany, {"limit": 1000})


def adding(k, more=0):
    """Rows that add the numbers below k modulo k; each further loop swallows all ahead of it."""
    return tuple(tuple((a + b) % k if max(a, b) < k else max(a, b) for b in range(k + more)) for a in range(k + more))


def ahead_stays(k):
    """Rows in which 0 changes nothing and of all others the one that stands ahead stays."""
    return tuple(tuple(b if a == 0 else a for b in range(k)) for a in range(k))


GREAT = sum_of(sum_of(loop_world(adding(11)), loop_world(adding(11, 1))), loop_world(adding(11, 2)))
TOO_GREAT = sum_of(loop_world(ahead_stays(5)), sum_of(loop_world(adding(7)), loop_world(adding(15))))
NEARLY = sum_of(loop_world(ahead_stays(6)), loop_world(adding(15)))


def square_graph(linked):
    """The graph world of the 16 points of a square, joined where linked tells it of their steps to one another."""
    places = [(a, b) for a in range(4) for b in range(4)]
    return graph(16, [(k, j) for k in range(16) for j in range(k)
                      if linked((places[k][0] - places[j][0]) % 4, (places[k][1] - places[j][1]) % 4)])


ROOK = square_graph(lambda a, b: a == 0 or b == 0)
SKEW = square_graph(lambda a, b: (a, b) in ((0, 1), (0, 3), (1, 0), (3, 0), (1, 1), (3, 3)))


class Great(unittest.TestCase):

    def check(self, one, other, many):
        found = copies(one, other)
        self.assertEqual(len(found), many)
        self.assertEqual(list(found), sorted(set(found)))
        for p, q in found:
            self.assertEqual(sorted(p), list(range(other[0])))
            self.assertEqual(sorted(q), list(range(len(other[1]))))
            self.assertTrue(is_map(one, other, p, q))
        return found

    def test_they_are_worlds(self):
        for world, arrows in ((GREAT, 36), (TOO_GREAT, 27), (NEARLY, 21)):
            self.assertIsNone(world_breach(world))
            self.assertEqual(len(world[1]), arrows)

    def test_a_thousand(self):
        self.check(GREAT, GREAT, 1000)
        self.check(GREAT, shuffled(GREAT, 5)[0], 1000)
        self.check(shuffled(GREAT, 6)[0], GREAT, 1000)
        self.check(NEARLY, NEARLY, 960)
        self.check(shuffled(NEARLY, 7)[0], shuffled(NEARLY, 8)[0], 960)

    def test_each_loop_of_the_great_one(self):
        # The copies of each of the three go with those of the others; each is told by where 1 goes.
        expected = []
        for a in range(1, 11):
            for b in range(1, 11):
                for c in range(1, 11):
                    places = {(0, k): (0, k * a % 11) for k in range(11)}
                    places.update({(1, k): (1, k * b % 11) for k in range(11)})
                    places.update({(2, k): (2, k * c % 11) for k in range(11)})
                    expected.append(places)
        names = [(0, 0), (1, 0), (2, 0)] + [(0, k) for k in range(1, 11)] + [(1, k) for k in range(1, 12)]
        names += [(2, k) for k in range(1, 13)]
        rows = [tuple(names.index(places.get(name, name)) for name in names) for places in expected]
        self.assertEqual([q for _, q in copies(GREAT, GREAT)], sorted(rows))
        self.assertEqual({p for p, _ in copies(GREAT, GREAT)}, {(0, 1, 2)})

    def test_too_many(self):
        self.assertEqual(raised(copies, TOO_GREAT, TOO_GREAT), THOUSAND)
        self.assertEqual(raised(copies, TOO_GREAT, shuffled(TOO_GREAT, 4)[0]), THOUSAND)
        self.assertEqual(copies(TOO_GREAT, turned(TOO_GREAT)), ())
        self.assertTrue(are_copies(TOO_GREAT, shuffled(TOO_GREAT, 4)[0]))

    def test_orders_and_loops(self):
        eight = chain_world(8)
        self.assertEqual(copies(eight, eight), ((tuple(range(8)), tuple(range(36))),))
        self.assertTrue(are_copies(eight, eight))
        self.assertEqual(len(self.check(eight, turned(eight), 1)), 1)
        self.check(apart_world(6), apart_world(6), 720)
        self.check(loop_world(ahead_stays(7)), loop_world(ahead_stays(7)), 720)
        self.check(loop_world(ahead_stays(7)), shuffled(loop_world(ahead_stays(7)), 9)[0], 720)

    def test_how_long_it_takes(self):
        # A third of these times is asked for; they are held wider here, as other things may run.
        cases = ((copies, GREAT, 0.25), (copies, TOO_GREAT, 0.18), (copies, NEARLY, 0.12), (copies, chain_world(8), 0.033),
                 (are_copies, chain_world(8), 0.033), (copies, apart_world(6), 0.010),
                 (copies, loop_world(ahead_stays(7)), 0.012))
        for function, world, most in cases:
            self.assertLess(min(self.seconds(function, world) for _ in range(5)), most)

    def seconds(self, function, world):
        start = time.perf_counter()
        raised(function, world, world)
        return time.perf_counter() - start


class Alike(unittest.TestCase):

    def test_worlds_of_which_few_traits_tell_nothing(self):
        self.assertFalse(are_copies(ROOK, SKEW))
        self.assertTrue(are_copies(SKEW, shuffled(SKEW, 1)[0]))
        self.assertEqual(len(copies(SKEW, SKEW)), 192)
        self.assertEqual(raised(copies, ROOK, ROOK), THOUSAND)

    def test_sharp_traits_tell_more_apart(self):
        one, other = cycles([3] * 12), cycles([3] * 10 + [6])
        self.assertEqual(sorted(traits_of(one, False)), sorted(traits_of(other, False)))
        self.assertNotEqual(sorted(traits_of(one, True)), sorted(traits_of(other, True)))
        self.assertFalse(are_copies(one, other))
        self.assertEqual(copies(one, other), ())

    def test_copies_keep_traits(self):
        for k, world in enumerate(SMALL + tuple(random_worlds(50, 20, 30))):
            other, along = shuffled(world, k)
            for sharp in (False, True):
                ours, theirs = traits_of(world, sharp), traits_of(other, sharp)
                self.assertEqual(ours, [theirs[f] for f in along[1]])
                for f, mask in enumerate(alike_arrows(ours, theirs)):
                    self.assertIn(along[1][f], bits_of(mask))

    def test_no_alike_arrows(self):
        self.assertEqual(alike_arrows(traits_of(FORK, False), traits_of(TWO, False)), [0, 0, 0, 0])
        self.assertEqual(alike_arrows([], []), [])


class Movers(unittest.TestCase):

    def test_put_behind(self):
        self.assertEqual(put_behind((1, 2, 0), (0, 2, 1)), (2, 1, 0))
        self.assertEqual(put_behind((), ()), ())

    def test_movers_to(self):
        still = (0, 1, 2, 3)
        self.assertEqual(movers_to([], 2, still), {2: still})
        self.assertEqual(movers_to([(1, 2, 0, 3)], 3, still), {3: still})
        found = movers_to([(1, 2, 0, 3)], 0, still)
        self.assertEqual(found, {0: still, 1: (1, 2, 0, 3), 2: (2, 0, 1, 3)})
        every = movers_to([(1, 0, 2, 3), (1, 2, 3, 0)], 0, still)
        self.assertEqual(sorted(every), [0, 1, 2, 3])
        for k, row in every.items():
            self.assertEqual((row[0], sorted(row)), (k, [0, 1, 2, 3]))

    def test_levels(self):
        for world in (EMPTY, POINT, CHAIN3):
            search = Leading(world, landing_of(world), True)
            traits = traits_of(world, False)
            self.assertEqual(levels_of(search, alike_arrows(traits, traits)), [])
            self.assertEqual(self_movers(world, 1000), [])
        self.assertEqual([len(found) for found in self_movers(apart_world(4), 1000)], [2, 3, 4])
        # It stops at the level at which there are too many.
        self.assertEqual([len(found) for found in self_movers(APART8, 1000)], [2, 3, 4, 5, 6, 7])
        self.assertEqual([len(found) for found in self_movers(APART8, 24)], [2, 3, 4, 5])

    def test_each_level_keeps_what_the_lower_ones_move(self):
        world = sum_of(ring(5), band(4))
        levels = self_movers(world, 1000)
        self.assertEqual(sorted(len(found) for found in levels), [2, 3, 4])
        for found in levels:
            for row in found:
                self.assertTrue(is_map(world, world, row[:world[0]], row))

    def test_without_patience(self):
        world = sum_of(ROOK, SKEW)
        self.assertIsNone(movers_by_level(world, traits_of(world, False), 10 ** 9, 0))
        self.assertIsNotNone(movers_by_level(world, traits_of(world, True), 10 ** 9, None))
        self.assertGreater(PATIENCE, 0)
        # The arrow 1 of a ring of 4 can go to 3, but not to 2.
        search = Leading(ring(4), landing_of(ring(4)), True)
        level = ([1, 0b1110, 0b1110, 0b1110], 1)
        still = (0, 1, 2, 3)
        self.assertIsNone(level_movers(search, level, [], still, 0))
        self.assertEqual(level_movers(search, level, [], still, 1), [still, (0, 3, 2, 1)])

    def test_one_and_all(self):
        for one in SMALL:
            for other in SMALL + tuple(shuffled(world, 2)[0] for world in SMALL):
                rows = [q for _, q in copies_by_trying(one, other)]
                self.assertEqual(sorted(all_copies(one, other, 1000)), rows)
                first = one_copy(one, other)
                self.assertEqual(first is None, rows == [])
                if rows:
                    self.assertIn(first, rows)
        self.assertEqual(len(all_copies(band(5), band(5), 24)), 24)
        self.assertEqual(raised(all_copies, band(5), band(5), 23), (errors.TooMany, {"limit": 23}))
        self.assertIsNone(one_copy(product(ring(4), ring(2)), ring(8)))
        self.assertIsNone(one_copy(null(5), band(5)))


if __name__ == "__main__":
    unittest.main()
