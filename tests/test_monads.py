"""[45]: monads."""

import random
import unittest

from arrowworlds import errors
from arrowworlds.families import is_family
from arrowworlds.made import product, sum_of
from arrowworlds.maps import behind, map_breach, maps_between, still_map
from arrowworlds.monads import monad_breach, monad_of, monads_over
from arrowworlds.orders import chain_world, order_world
from arrowworlds.partners import partnerships
from arrowworlds.reflections import closures
from arrowworlds.worlds import world_breach
from tests.samples import (APART8, BACK, CHAIN2, CHAIN3, EMPTY, FORK, IDLE, POINT, SMALL, SPLIT, TWO, WRONG_VALUES,
                           check_calls, drawn_maps, families_by_words, hand, raised, random_worlds, ring, seconds,
                           turnable_by_words, with_others)
from tests.test_cones import CROSS, SQUARE

THOUSAND = (errors.TooMany, {"limit": 1000})
WORLDS = SMALL + (SQUARE, CROSS) + tuple(random_worlds(450, 20, 9))

# The closure of a chain that takes all to its end.
TO_END = (((1, 1), (1, 1, 1)), (2, 1), (1, 1))


def monad_by_words(world, along, u, m):
    """Whether two families make a monad with the map."""
    p, q = along
    stills = range(world[0])
    return all(world[2][u[p[x]]][m[x]] in stills and world[2][q[u[x]]][m[x]] in stills for x in stills)


def monads_by_words(world, along):
    """All monads over the map, by trying out all pairs of families."""
    units = families_by_words(world, world, still_map(world), along)
    mults = families_by_words(world, world, behind(along, along), along)
    return tuple((along, u, m) for u in units for m in mults if monad_by_words(world, along, u, m))


def few_maps(seed, world, many):
    rng = random.Random(seed)
    if raised(maps_between, world, world) is not None:
        return [still_map(world)]
    found = maps_between(world, world)
    return rng.sample(found, min(many, len(found)))


def all_monads(seed, worlds, many):
    """Worlds with some of their monads."""
    for world in worlds:
        for along in few_maps(seed, world, many):
            if raised(monads_over, world, along) is None:
                for monad in monads_over(world, along)[:4]:
                    yield world, monad


def all_partnerships(seed, worlds, many):
    """Drawn maps there and back between the worlds, with some of their partnerships."""
    rng = random.Random(seed)
    for one in worlds:
        for other in worlds:
            for first in drawn_maps(rng, one, other, 2):
                for second in drawn_maps(rng, other, one, 2):
                    if raised(partnerships, one, other, first, second) is None:
                        for unit, counit in partnerships(one, other, first, second)[:many]:
                            yield one, other, first, second, unit, counit


class Breaches(unittest.TestCase):

    def check(self, world, value, word):
        self.assertEqual(monad_breach(world, value), word, value)

    def test_monads(self):
        self.check(EMPTY, (((), ()), (), ()), None)
        self.check(POINT, (((0,), (0,)), (0,), (0,)), None)
        self.check(CHAIN2, (still_map(CHAIN2), (0, 1), (0, 1)), None)
        self.check(CHAIN2, TO_END, None)
        self.check(ring(3), (still_map(ring(3)), (1,), (2,)), None)
        self.check(ring(3), (still_map(ring(3)), (0,), (0,)), None)

    def test_each_word_alone(self):
        self.check(CHAIN2, (((1, 1), (1, 1, 2)), (2, 1), (1, 1)), "map")
        self.check(CHAIN2, (((1, 1), (1, 1, 1)), (2, 2), (1, 1)), "unit")
        self.check(CHAIN2, (((0, 0), (0, 0, 0)), (0, 2), (0, 0)), "unit")
        self.check(CHAIN2, (((1, 1), (1, 1, 1)), (2, 1), (2, 1)), "mult")
        self.check(ring(3), (still_map(ring(3)), (1,), (1,)), "left")
        self.check(ring(3), (still_map(ring(3)), (0,), (1,)), "left")
        self.check(IDLE, (still_map(IDLE), (1,), (0,)), "left")
        # The unit at 0 is still, but the image of the unit at 1 is the idle arrow.
        self.assertIsNone(world_breach(SWALLOW))
        self.check(SWALLOW, (((0, 0), (0, 0, 3, 3)), (0, 2), (0, 0)), "right")

    def test_entries_with_the_right_ends_that_are_no_families(self):
        self.check(FORK, (((1, 1), (1, 1, 1, 1)), (2, 1), (1, 1)), "unit")
        # In a group that is not its own turned one, only what goes along with all may stand.
        world = six()
        self.assertIsNone(world_breach(world))
        self.check(world, (still_map(world), (1,), (1,)), "unit")
        self.check(world, (still_map(world), (0,), (1,)), "mult")
        self.check(world, (still_map(world), (0,), (0,)), None)

    def test_several_at_once(self):
        along = ((1, 1), (1, 1, 1))
        self.check(CHAIN2, (((1, 1), (1, 1, 2)), (2, 2), (2, 1)), "map")
        self.check(CHAIN2, (along, (0, 1), (2, 1)), "unit")
        self.check(CHAIN2, (along, (2,), ()), "unit")
        self.check(CHAIN2, (along, (2, 1), None), "mult")
        self.check(CHAIN2, (((0,), (0,)), None, None), "map")
        both = sum_of(ring(3), ring(3))
        # At the first thing it is not still on the left; at neither on the right.
        self.check(both, (still_map(both), (2, 4), (2, 5)), "left")
        self.check(both, (still_map(both), (2, 4), (3, 4)), "left")
        more = sum_of(SWALLOW, ring(2))
        self.assertEqual(more[1][3:], ((0, 0), (1, 0), (2, 2)))
        self.check(more, (((0, 0, 2), (0, 0, 2, 3, 3, 5)), (0, 4, 5), (0, 0, 2)), "left")
        self.check(more, (((0, 0, 2), (0, 0, 2, 3, 3, 5)), (0, 4, 5), (0, 0, 5)), "right")
        self.check(more, (((0, 0, 2), (0, 0, 2, 3, 3, 5)), (0, 4, 5), (0, 0, 4)), "mult")

    def test_against_the_words(self):
        rng = random.Random(451)
        told = {}
        for world in WORLDS:
            for along in few_maps(452, world, 5):
                units = families_by_words(world, world, still_map(world), along)
                mults = families_by_words(world, world, behind(along, along), along)
                for _ in range(6):
                    if units and mults:
                        u, m = rng.choice(units), rng.choice(mults)
                        word = monad_breach(world, (along, u, m))
                        self.assertEqual(word is None, monad_by_words(world, along, u, m))
                        self.assertIn(word, (None, "left", "right"))
                        told[word] = True
        self.assertLessEqual({None, "left"}, set(told))

    def test_values_of_other_kinds(self):
        for value in with_others(TO_END):
            if repr(value) != repr(TO_END):
                word = monad_breach(CHAIN2, value)
                self.assertIn(word, ("map", "unit", "mult"))
                good = type(value) is tuple and len(value) == 3
                self.assertEqual(word == "map", not good or repr(value[0]) != repr(TO_END[0]))
                if word == "mult":
                    self.assertEqual(value[:2], TO_END[:2])
        for value in WRONG_VALUES + (list(TO_END), TO_END[:2], TO_END + ((),), (TO_END,)):
            self.check(CHAIN2, value, "map")
            self.check(EMPTY, value, "map")
        for value in WRONG_VALUES + ([2, 1], (2,), (2, 1, 1), "21", (2, True), (True, 1), (2, 1.0), (2, None), (2, 3),
                                     (2, -1)):
            self.check(CHAIN2, (TO_END[0], value, TO_END[2]), "unit")
        for value in WRONG_VALUES + ([1, 1], (1,), (1, 1, 1), "11", (1, True), (True, 1), (1, 1.0), (1, None), (1, 3),
                                     (1, -1)):
            self.check(CHAIN2, (TO_END[0], TO_END[1], value), "mult")
        self.check(POINT, (((False,), (0,)), (0,), (0,)), "map")
        self.check(POINT, (((0,), (0,)), (False,), (0,)), "unit")
        self.check(POINT, (((0,), (0,)), (0,), (False,)), "mult")


# An arrow 2 from 1 to 0; the idle arrow 3 at 0 does not change it.
SWALLOW = (2, ((0, 0), (1, 1), (1, 0), (0, 0)),
           ((0, -1, -1, 3), (-1, 1, 2, -1), (2, -1, -1, 2), (3, -1, -1, 3)))


def six():
    """One thing whose arrows are the six ways to put three places in a sequence."""
    rows = [(0, 1, 2), (1, 0, 2), (0, 2, 1), (2, 1, 0), (1, 2, 0), (2, 0, 1)]
    return (1, ((0, 0),) * 6, tuple(tuple(rows.index(tuple(b[k] for k in a)) for b in rows) for a in rows))


class MonadsOf(unittest.TestCase):

    def test_by_hand(self):
        # The chain of two is led to its end, and the end back.
        told = monad_of(CHAIN2, POINT, ((0, 0), (0, 0, 0)), ((1,), (1,)), (2, 1), (0,))
        self.assertEqual(told, TO_END)
        self.assertEqual(monad_of(EMPTY, EMPTY, ((), ()), ((), ()), (), ()), (((), ()), (), ()))

    def test_of_all_partnerships(self):
        seen = 0
        for one, other, first, second, unit, counit in all_partnerships(453, WORLDS, 3):
            monad = monad_of(one, other, first, second, unit, counit)
            self.assertIsNone(monad_breach(one, monad))
            self.assertEqual(monad[:2], (behind(first, second), unit))
            self.assertEqual(monad[2], tuple(second[1][counit[first[0][x]]] for x in range(one[0])))
            self.assertIn(monad, monads_over(one, monad[0]))
            seen += 1
        self.assertGreater(seen, 100)


class MonadsOver(unittest.TestCase):

    def test_by_hand(self):
        self.assertEqual(monads_over(EMPTY, ((), ())), ((((), ()), (), ()),))
        self.assertEqual(monads_over(CHAIN2, TO_END[0]), (TO_END,))
        self.assertEqual(monads_over(CHAIN2, ((0, 0), (0, 0, 0))), ())
        still = still_map(ring(3))
        self.assertEqual(monads_over(ring(3), still), ((still, (0,), (0,)), (still, (1,), (2,)), (still, (2,), (1,))))
        self.assertEqual(monads_over(ring(3), ((0,), (0, 2, 1))), ())
        self.assertEqual(monads_over(IDLE, still_map(IDLE)), ((still_map(IDLE), (0,), (0,)),))
        self.assertEqual(monads_over(SWALLOW, ((0, 0), (0, 0, 3, 3))), ())

    def test_by_trying_all_pairs(self):
        seen = 0
        for world in WORLDS:
            for along in few_maps(454, world, 40):
                expected = monads_by_words(world, along)
                found = monads_over(world, along)
                self.assertEqual(found, expected)
                self.assertEqual(list(found), sorted(set(found)))
                seen += len(found)
                for monad in found:
                    self.check_monad(world, monad)
        self.assertGreater(seen, 60)

    def check_monad(self, world, monad):
        """What the point tells of all monads."""
        along, u, m = monad
        self.assertIsNone(monad_breach(world, monad))
        self.assertTrue(is_family(world, world, still_map(world), along, u))
        turnable = turnable_by_words(world)
        for x in range(world[0]):
            self.assertEqual(along[1][m[x]], m[along[0][x]])
            self.assertIn(m[x], turnable)

    def test_at_most_1000(self):
        # Three rings of ten: 1000 families from the still map to itself.
        rings = sum_of(ring(10), sum_of(ring(10), ring(10)))
        self.assertEqual(len(monads_over(rings, still_map(rings))), 1000)
        more = sum_of(ring(7), sum_of(ring(11), ring(13)))
        self.assertEqual(raised(monads_over, more, still_map(more)), THOUSAND)

    def test_too_many_from_one_of_both_maps_alone(self):
        # On a chain of three each thing but the last one goes one ahead: no arrow leads back.
        ahead = ((1, 2, 2), (1, 2, 2, 5, 5, 2))
        self.assertIn(ahead, maps_between(CHAIN3, CHAIN3))
        for rings, error in ((sum_of(ring(10), sum_of(ring(10), ring(10))), None),
                             (sum_of(ring(7), sum_of(ring(11), ring(13))), THOUSAND)):
            world = sum_of(CHAIN3, rings)
            along = beside_still(ahead, CHAIN3, rings)
            self.assertEqual(families_by_words(CHAIN3, CHAIN3, behind(ahead, ahead), ahead), ())
            self.assertEqual(raised(monads_over, world, along), error)
            if error is None:
                self.assertEqual(monads_over(world, along), ())
        # A thing that no arrow leads to the ring to which it goes: no family from the still map.
        for size, error in ((10, None), (11, THOUSAND)):
            world = sum_of(POINT, sum_of(ring(size), ring(10)))
            n = len(world[1])
            along = ((1, 1, 2), (1, 1, 2) + tuple(range(3, n)))
            self.assertIsNone(map_breach(world, world, along))
            self.assertEqual(raised(monads_over, world, along), error)
            if error is None:
                self.assertEqual(monads_over(world, along), ())

    def test_orders(self):
        orders = (EMPTY, POINT, TWO, CHAIN2, CHAIN3, SQUARE, CROSS, chain_world(5),
                  order_world(4, ((0, 1), (0, 2), (0, 3), (1, 3), (2, 3))), order_world(4, ((0, 2), (1, 2), (3, 2))))
        for world in orders:
            told = closures(world)
            for along in maps_between(world, world):
                self.assertEqual(len(monads_over(world, along)), int(along in told))

    def test_where_two_things_are_the_same(self):
        # Each map of two things that are the same is the first entry of just one monad.
        for along in maps_between(BACK, BACK):
            self.assertEqual(len(monads_over(BACK, along)), 1)


def beside_still(along, one, other):
    """The map from the sum of both worlds to itself that is this map on the one and the still map on the other."""
    n, m = one[0], other[0]
    things = along[0] + tuple(range(n, n + m))
    world = sum_of(one, other)
    # The arrows of the one that are not still come behind all still ones, those of the other behind these.
    rest = [f if f < n else f + m for f in along[1][n:]]
    return (things, things + tuple(rest) + tuple(range(n + m + len(rest), len(world[1]))))


class Calls(unittest.TestCase):

    def test_calls(self):
        check_calls(self, monad_breach, {"world": CHAIN2, "value": TO_END})
        check_calls(self, monad_breach, {"world": CHAIN2, "value": [TO_END]})
        check_calls(self, monad_of, {"one": CHAIN2, "other": POINT, "first": ((0, 0), (0, 0, 0)),
                                     "second": ((1,), (1,)), "unit": (2, 1), "counit": (0,)})
        check_calls(self, monads_over, {"world": CHAIN2, "along": TO_END[0]})

    def test_how_long_it_takes(self):
        for world in random_worlds(455, 20, 14):
            for along in few_maps(456, world, 3):
                self.assertLess(seconds(monads_over, world, along), 0.1)
        rings = sum_of(ring(10), sum_of(ring(10), ring(10)))
        for world in (rings, ring(40), product(BACK, ring(10)), chain_world(8), APART8, hand(2, [(0, 1)] * 38),
                      sum_of(ring(20), ring(20)), SPLIT):
            self.assertLess(seconds(monads_over, world, still_map(world)), 1)


if __name__ == "__main__":
    unittest.main()
