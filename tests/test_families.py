"""[16], [17]: families between maps, and worlds of maps."""

import random
import unittest

from arrowworlds import errors
from arrowworlds.arrows import back_of
from arrowworlds.families import beside, families, is_family, map_world, then_families
from arrowworlds.joins import are_copies
from arrowworlds.made import product, renumbered, sum_of
from arrowworlds.maps import behind, maps_between, still_map
from arrowworlds.worlds import turned, world_breach
from tests.samples import (APART8, BACK, CHAIN2, CHAIN3, EMPTY, EQUALIZED, FORK, IDLE, POINT, SMALL, SPLIT, TWO,
                           WRONG_VALUES, band, between_by_words, check_calls, drawn_maps, families_by_words, hand,
                           is_family_by_words, named_world, null, raised, random_worlds, ring, seconds, shuffled, turnable_by_words,
                           with_others)

THOUSAND = (errors.TooMany, {"limit": 1000})
EIGHT = (errors.TooMany, {"limit": 8})
FORTY = (errors.TooMany, {"limit": 40})
THREE = hand(3, [])


def constant(one, x):
    """The map from one that takes everything to the thing x."""
    return ((x,) * one[0], (x,) * len(one[1]))


def drawn_pairs(seed, worlds, many):
    """Drawn worlds one and other, with two drawn maps between them."""
    rng = random.Random(seed)
    found = []
    for one in worlds:
        for other in worlds:
            firsts, seconds_ = drawn_maps(rng, one, other, many), drawn_maps(rng, one, other, many)
            found += [(one, other, first, second) for first, second in zip(firsts, seconds_)]
    return found


class IsFamily(unittest.TestCase):

    def check(self, one, other, first, second, value, expected):
        self.assertIs(is_family(one, other, first, second, value), expected, value)

    def test_by_hand(self):
        low, high = ((0, 1), (0, 1, 3)), ((1, 2), (1, 2, 5))
        self.check(CHAIN2, CHAIN3, low, high, (3, 5), True)
        self.check(CHAIN2, CHAIN3, low, high, (3, 4), False)
        self.check(CHAIN2, CHAIN3, low, low, (0, 1), True)
        self.check(CHAIN2, CHAIN3, high, low, (3, 5), False)
        # Both entries of a family between two maps to a ring are told by one another.
        self.check(CHAIN2, ring(4), ((0, 0), (0, 0, 1)), ((0, 0), (0, 0, 3)), (0, 2), True)
        self.check(CHAIN2, ring(4), ((0, 0), (0, 0, 1)), ((0, 0), (0, 0, 3)), (1, 3), True)
        self.check(CHAIN2, ring(4), ((0, 0), (0, 0, 1)), ((0, 0), (0, 0, 3)), (2, 0), True)
        self.check(CHAIN2, ring(4), ((0, 0), (0, 0, 1)), ((0, 0), (0, 0, 3)), (2, 2), False)
        self.check(CHAIN2, ring(4), ((0, 0), (0, 0, 3)), ((0, 0), (0, 0, 1)), (0, 2), True)
        self.check(CHAIN2, ring(4), ((0, 0), (0, 0, 1)), ((0, 0), (0, 0, 2)), (0, 1), True)
        self.check(CHAIN2, ring(4), ((0, 0), (0, 0, 2)), ((0, 0), (0, 0, 1)), (0, 1), False)
        self.check(CHAIN2, FORK, ((0, 1), (0, 1, 2)), ((0, 1), (0, 1, 3)), (0, 1), False)
        self.check(CHAIN2, FORK, ((0, 1), (0, 1, 2)), ((0, 1), (0, 1, 2)), (0, 1), True)
        self.check(CHAIN2, FORK, ((0, 0), (0, 0, 0)), ((0, 1), (0, 1, 2)), (0, 2), True)
        self.check(CHAIN2, FORK, ((0, 0), (0, 0, 0)), ((0, 1), (0, 1, 2)), (0, 3), False)
        self.check(EMPTY, SPLIT, ((), ()), ((), ()), (), True)
        self.check(EMPTY, EMPTY, ((), ()), ((), ()), (), True)
        self.check(EMPTY, SPLIT, ((), ()), ((), ()), (0,), False)
        self.check(TWO, FORK, ((0, 0), (0, 0)), ((1, 1), (1, 1)), (2, 3), True)
        self.check(TWO, FORK, ((0, 0), (0, 0)), ((1, 0), (1, 0)), (2, 2), False)

    def test_the_side_on_which_an_arrow_stands(self):
        # a.b is a where a is not 0, so it makes a difference whether one goes first or last.
        first, second = ((0, 0), (0, 0, 1)), ((0, 0), (0, 0, 2))
        self.assertEqual(families(CHAIN2, band(4), first, second), tuple((1, y) for y in range(4)))
        self.assertEqual(families(CHAIN2, turned(band(4)), first, second), tuple((x, 2) for x in range(4)))

    def test_bent_at_each_entry(self):
        bent = 0
        for one, other, first, second in drawn_pairs(70, SMALL + tuple(random_worlds(71, 6, 12)), 3):
            for a in families(one, other, first, second)[:2]:
                self.check(one, other, first, second, a, True)
                for k, entry in enumerate(a):
                    for more in range(-1, len(other[1]) + 1):
                        row = a[:k] + (more,) + a[k + 1:]
                        right = 0 <= more < len(other[1]) and other[1][more] == other[1][entry]
                        good = right and is_family_by_words(one, other, first, second, row)
                        self.check(one, other, first, second, row, good)
                        bent += right and not good
                    self.check(one, other, first, second, a[:k] + a[k + 1:], False)
                    self.check(one, other, first, second, a[:k] + (entry,) + a[k:], False)
                self.check(one, other, first, second, a + (0,), False)
        self.assertGreater(bent, 100)

    def test_values_of_other_kinds(self):
        cases = ((CHAIN2, CHAIN3, ((0, 1), (0, 1, 3)), ((1, 2), (1, 2, 5)), (3, 5)),
                 (TWO, TWO, ((0, 1), (0, 1)), ((0, 1), (0, 1)), (0, 1)), (EMPTY, POINT, ((), ()), ((), ()), ()))
        for one, other, first, second, good in cases:
            self.check(one, other, first, second, good, True)
            for value in with_others(good):
                if repr(value) != repr(good):
                    self.check(one, other, first, second, value, False)
        for value in ((True, 1), (False, True), (0, True), (0.0, 1), ("0", 1), ((0,), 1), (None, 1), ([0], 1)):
            self.check(TWO, TWO, ((0, 1), (0, 1)), ((0, 1), (0, 1)), value, False)
        for value in WRONG_VALUES + ("", "01", [], {0: 0}):
            self.check(TWO, TWO, ((0, 1), (0, 1)), ((0, 1), (0, 1)), value, False)


class Families(unittest.TestCase):

    def test_by_hand(self):
        low, high = ((0, 1), (0, 1, 3)), ((1, 2), (1, 2, 5))
        self.assertEqual(families(CHAIN2, CHAIN3, low, high), ((3, 5),))
        self.assertEqual(families(CHAIN2, CHAIN3, high, low), ())
        self.assertEqual(families(CHAIN2, FORK, ((0, 0), (0, 0, 0)), ((0, 1), (0, 1, 3))), ((0, 3),))
        self.assertEqual(families(TWO, FORK, ((0, 0), (0, 0)), ((1, 1), (1, 1))), ((2, 2), (2, 3), (3, 2), (3, 3)))
        self.assertEqual(families(CHAIN2, ring(4), ((0, 0), (0, 0, 1)), ((0, 0), (0, 0, 3))),
                         ((0, 2), (1, 3), (2, 0), (3, 1)))
        self.assertEqual(families(IDLE, SPLIT, ((0,), (0, 2)), ((1,), (1, 1))), ((3,),))
        self.assertEqual(families(EMPTY, SPLIT, ((), ()), ((), ())), ((),))
        self.assertEqual(families(EMPTY, EMPTY, ((), ()), ((), ())), ((),))

    def test_by_trying_all_rows(self):
        found = {True: 0, False: 0}
        worlds = SMALL + tuple(random_worlds(72, 8, 10))
        for one, other, first, second in drawn_pairs(73, worlds, 6):
            expected = families_by_words(one, other, first, second)
            if len(expected) > 1000:
                self.assertEqual(raised(families, one, other, first, second), THOUSAND)
            else:
                self.assertEqual(families(one, other, first, second), expected)
            found[len(expected) > 0] += 1
        self.assertGreater(min(found.values()), 300)

    def test_turned(self):
        for one, other, first, second in drawn_pairs(74, random_worlds(75, 8, 9), 3):
            self.assertEqual(families(turned(one), turned(other), second, first), families(one, other, first, second))

    def test_at_most_a_thousand(self):
        self.assertEqual(len(families(TWO, ring(31), constant(TWO, 0), constant(TWO, 0))), 961)
        thousand = families(THREE, ring(10), constant(THREE, 0), constant(THREE, 0))
        self.assertEqual(thousand, tuple((a, b, c) for a in range(10) for b in range(10) for c in range(10)))
        self.assertEqual(raised(families, TWO, ring(32), constant(TWO, 0), constant(TWO, 0)), THOUSAND)
        rings = sum_of(ring(7), sum_of(ring(11), ring(13)))
        each = ((0, 1, 2), (0, 1, 2))
        self.assertEqual(raised(families, THREE, rings, each, each), THOUSAND)
        self.assertEqual(len(families(TWO, rings, ((1, 2), (1, 2)), ((1, 2), (1, 2)))), 143)
        self.assertEqual(raised(families, APART8, ring(32), constant(APART8, 0), constant(APART8, 0)), THOUSAND)

    def test_a_thousand_with_arrows(self):
        # Of the arrow 1 of a band all families are told by one side.
        one = sum_of(THREE, CHAIN2)
        first = ((0,) * 5, (0,) * 5 + (1,))
        second = ((0,) * 5, (0,) * 5 + (2,))
        self.assertEqual(len(families(sum_of(TWO, CHAIN2), band(10), ((0,) * 4, (0,) * 4 + (1,)),
                                      ((0,) * 4, (0,) * 4 + (2,)))), 1000)
        self.assertEqual(raised(families, one, band(10), first, second), THOUSAND)

    def test_what_narrows_late(self):
        # The loops (a, b) of a null and a band are 8 a + b. The null lets nearly all stand at both ends of an arrow;
        # the last two arrows ask the band at their first thing to be 2 and to be 3.
        loop = product(null(5), band(8))
        row = hand(8, [(k, k + 1) if k % 2 == 0 else (k + 1, k) for k in range(7)] + [(6, 7), (6, 7)])
        star = hand(8, [(0, k) for k in range(1, 8)] + [(0, 7), (0, 7)])
        first = ((0,) * 8, (0,) * 8 + (16,) * 7 + (2, 3))
        second = ((0,) * 8, (0,) * 8 + (24,) * 7 + (1, 1))
        free = ((0,) * 8, (0,) * 8 + (16,) * 9)
        for one in (row, star):
            self.assertEqual(families(one, loop, first, second), ())
            self.assertEqual(raised(families, one, loop, free, free), THOUSAND)
            self.assertLess(seconds(families, one, loop, first, second), 1)
            self.assertLess(seconds(families, one, loop, free, free), 1)

    def test_what_one_end_of_a_row_tells_the_other_one(self):
        # The loops (a, b) of a ring and an idle arrow are 2 a + b. In the row all entries are alike; the last
        # arrow asks them to be idle.
        one = hand(8, [(k, k + 1) if k % 2 == 0 else (k + 1, k) for k in range(7)] + [(6, 7)])
        first = ((0,) * 8, (0,) * 8 + (2,) * 7 + (0,))
        second = ((0,) * 8, (0,) * 8 + (2,) * 7 + (1,))
        self.assertEqual(families(one, product(ring(8), IDLE), first, second),
                         tuple((2 * k + 1,) * 8 for k in range(8)))

    def test_circles_that_do_not_close(self):
        # Around a circle of four things the entries are to go on by 1, beside four things on which all is let.
        circle = hand(8, [(0, 1), (0, 3), (2, 1), (2, 3)] + [(4, k) for k in range(5, 8)])
        first = ((0,) * 8, (0,) * 15)
        second = ((0,) * 8, (0,) * 8 + (1, 0, 0, 0) + (0, 0, 0))
        self.assertEqual(families(circle, ring(40), first, second), ())
        self.assertEqual(raised(families, circle, ring(40), first, first), THOUSAND)
        even = ((0,) * 8, (0,) * 8 + (1, 1, 0, 0) + (0, 0, 0))
        self.assertEqual(raised(families, circle, ring(40), first, even), THOUSAND)
        self.assertEqual(len(families(circle, ring(31), first, even)), 961)
        self.assertLess(seconds(families, circle, ring(40), first, second), 1)


class Put(unittest.TestCase):

    def test_then(self):
        self.assertEqual(then_families(CHAIN3, (3, 5), (5, 2)), (4, 5))
        self.assertEqual(then_families(CHAIN3, (), ()), ())
        self.assertEqual(then_families(ring(5), (1, 2, 4), (4, 4, 4)), (0, 1, 3))
        self.assertEqual(then_families(band(3), (1, 2), (2, 1)), (1, 2))

    def test_beside_by_hand(self):
        # a leads from the map to 0 to the still one, b from the still one to the map to 1.
        a, b = (0, 2), (2, 1)
        near, far = still_map(CHAIN2), still_map(CHAIN2)
        self.assertEqual(beside(CHAIN2, a, b, near, far), (2, 2))
        self.assertEqual(beside(CHAIN2, (), (), ((), ()), far), ())
        # In a band what goes first stays: that is far of a.
        twice = ((0,), (0, 2, 1, 3))
        self.assertEqual(beside(band(4), (1,), (3,), ((0,), (0, 1)), twice), (2,))

    def test_both_forms(self):
        rng = random.Random(76)
        seen = 0
        for one, other, first, near in drawn_pairs(77, random_worlds(78, 7, 9), 2):
            for third in (SPLIT, CHAIN3, band(3), ring(3)):
                fars, lasts = drawn_maps(rng, other, third, 3), drawn_maps(rng, other, third, 3)
                for far, last in zip(fars, lasts):
                    for a in families(one, other, first, near)[:3]:
                        for b in families(other, third, far, last)[:3]:
                            found = beside(third, a, b, near, far)
                            again = tuple(third[2][b[first[0][x]]][last[1][a[x]]] for x in range(one[0]))
                            self.assertEqual(found, again)
                            self.assertIn(found, families(one, third, behind(first, far), behind(near, last)))
                            seen += 1
        self.assertGreater(seen, 100)

    def test_behind_and_beside_in_either_sequence(self):
        seen = 0
        for one in (CHAIN2, IDLE, TWO, BACK):
            for other in (SPLIT, CHAIN3, band(3)):
                for third in (SPLIT, CHAIN2, IDLE):
                    seen += self.check_square(one, other, third)
        self.assertGreater(seen, 100)

    def check_square(self, one, other, third):
        rng = random.Random(79)
        ours = [drawn_maps(rng, one, other, 4) for _ in range(3)]
        theirs = [drawn_maps(rng, other, third, 4) for _ in range(3)]
        seen = 0
        for f, g, h in zip(*ours):
            for j, k, l in zip(*theirs):
                for a in families(one, other, f, g)[:2]:
                    for b in families(one, other, g, h)[:2]:
                        for c in families(other, third, j, k)[:2]:
                            for d in families(other, third, k, l)[:2]:
                                whole = beside(third, then_families(other, a, b), then_families(third, c, d), h, j)
                                parts = then_families(third, beside(third, a, c, g, j), beside(third, b, d, h, k))
                                self.assertEqual(whole, parts)
                                seen += 1
        return seen


class MapWorlds(unittest.TestCase):

    def test_by_hand(self):
        self.assertEqual(map_world(CHAIN2, CHAIN2), CHAIN3)
        self.assertEqual(map_world(TWO, CHAIN2), product(CHAIN2, CHAIN2))
        self.assertEqual(map_world(EMPTY, SPLIT), POINT)
        self.assertEqual(map_world(EMPTY, EMPTY), POINT)
        self.assertEqual(map_world(SPLIT, EMPTY), EMPTY)
        self.assertEqual(map_world(POINT, EMPTY), EMPTY)
        # The maps are (0, 0, 0, 0, 0), (0, 1, 0, 1, 2), (0, 1, 0, 1, 3) and (1, 1, 1, 1, 1).
        self.assertEqual(map_world(CHAIN2, FORK),
                         hand(4, [(0, 1), (0, 2), (0, 3), (0, 3), (1, 3), (2, 3)],
                              {(4, 8): 6, (5, 9): 7}))

    def test_numbered_by_names(self):
        made = map_world(CHAIN2, ring(2))
        # From map to map the families (0, 0) and (1, 1), or (0, 1) and (1, 0); the still one comes first.
        self.assertEqual(made[:2], (2, ((0, 0), (1, 1), (0, 0), (0, 1), (0, 1), (1, 0), (1, 0), (1, 1))))
        self.assertEqual(made[2][3], (-1, 3, -1, -1, -1, 0, 2, 4))
        self.assertEqual(made[2][4], (-1, 4, -1, -1, -1, 2, 0, 3))
        self.assertEqual(made[2][5], (5, -1, 6, 1, 7, -1, -1, -1))
        self.assertEqual(made[2][2], (2, -1, 0, 4, 3, -1, -1, -1))
        self.assertIsNone(world_breach(made))
        for world in SMALL + tuple(random_worlds(80, 10, 40)):
            self.assertEqual(map_world(POINT, world), renumbered(world, tuple(range(world[0]))))

    def test_they_are_worlds_of_all_maps_and_families(self):
        seen = 0
        worlds = SMALL + tuple(random_worlds(81, 8, 8))
        for one in worlds:
            for other in worlds:
                try:
                    made = map_world(one, other)
                except errors.TooMany:
                    continue
                self.assertIsNone(world_breach(made))
                self.assertEqual(made, self.by_names(one, other))
                for x, first in enumerate(maps_between(one, other)):
                    for y, second in enumerate(maps_between(one, other)):
                        rows = families_by_words(one, other, first, second)
                        self.check_turnable(other, made, between_by_words(made, x, y), rows)
                seen += len(made[1])
        self.assertGreater(seen, 1000)

    def by_names(self, one, other):
        maps = maps_between(one, other)
        arrows = [(sum(first, ()), sum(second, ()), a) for first in maps for second in maps
                  for a in families_by_words(one, other, first, second)]
        stills = [(p + q, p + q, p) for p, q in maps]
        return named_world([p + q for p, q in maps], stills, arrows,
                           lambda a, b: tuple(other[2][f][g] for f, g in zip(a, b)))

    def check_turnable(self, other, made, arrows, rows):
        turnable = turnable_by_words(other)
        # Of the arrows between two things the still one stands first, all else by the names.
        expected = [a for a in rows if all(f in turnable for f in a)]
        self.assertEqual(len([f for f in arrows if back_of(made, f) is not None]), len(expected))

    def test_as_many_maps_from_a_product(self):
        seen = 0
        some = (EMPTY, POINT, TWO, CHAIN2, BACK, IDLE, ring(2))
        for one in some:
            for two in some:
                for three in some:
                    if raised(map_world, two, three) is None and raised(product, one, two) is None:
                        pair = product(one, two)
                        self.assertEqual(len(maps_between(pair, three)), len(maps_between(one, map_world(two, three))))
                        seen += 1
        self.assertGreater(seen, 200)

    def test_copies(self):
        for k, world in enumerate((SPLIT, FORK, band(3))):
            self.assertTrue(are_copies(map_world(CHAIN2, world), map_world(CHAIN2, shuffled(world, k)[0])))

    def test_what_is_let(self):
        self.assertEqual(map_world(THREE, TWO)[0], 8)
        self.assertEqual(map_world(POINT, ring(40)), ring(40))
        self.assertEqual(len(map_world(CHAIN2, SPLIT)[1]), 39)
        self.assertEqual(len(map_world(TWO, ring(6))[1]), 36)

    def test_too_many_maps_comes_first(self):
        self.assertEqual(raised(map_world, APART8, APART8), THOUSAND)
        # 1331 maps, just as many families for each, and 33 arrows.
        self.assertEqual(raised(map_world, THREE, sum_of(ring(31), hand(7, []))), EIGHT)
        self.assertEqual(raised(map_world, hand(4, []), sum_of(ring(31), hand(5, []))), THOUSAND)

    def test_more_than_eight_maps(self):
        self.assertEqual(raised(map_world, TWO, THREE), EIGHT)
        # 27 maps, of which one has 1331 families to itself, and more than 40 arrows.
        self.assertEqual(raised(map_world, THREE, sum_of(ring(11), TWO)), EIGHT)

    def test_more_than_a_thousand_families(self):
        self.assertEqual(raised(map_world, THREE, ring(11)), THOUSAND)
        # The map to the second ring comes behind others that have more than 40 families.
        self.assertEqual(raised(map_world, THREE, sum_of(ring(7), ring(11))), THOUSAND)
        self.assertEqual(raised(map_world, TWO, ring(32)), THOUSAND)

    def test_more_than_forty_arrows(self):
        self.assertEqual(raised(map_world, THREE, ring(10)), FORTY)
        self.assertEqual(raised(map_world, TWO, ring(7)), FORTY)
        self.assertEqual(raised(map_world, CHAIN2, null(3)), FORTY)
        self.assertEqual(raised(map_world, TWO, ring(31)), FORTY)


class Calls(unittest.TestCase):

    def test_calls(self):
        low, high = ((0, 1), (0, 1, 3)), ((1, 2), (1, 2, 5))
        case = {"one": CHAIN2, "other": CHAIN3, "first": low, "second": high}
        check_calls(self, families, case)
        check_calls(self, is_family, {**case, "value": (3, 5)})
        check_calls(self, is_family, {**case, "value": [(3, 5), {}]})
        check_calls(self, then_families, {"other": band(3), "a": (1, 2), "b": (2, 1)})
        check_calls(self, beside, {"third": band(4), "a": (1,), "b": (3,), "near": ((0,), (0, 1)),
                                   "far": ((0,), (0, 2, 1, 3))})
        check_calls(self, map_world, {"one": CHAIN2, "other": FORK})

    def test_how_long_it_takes(self):
        rng = random.Random(82)
        worlds = [world for world in random_worlds(83, 12, 14)]
        for one in worlds:
            for other in worlds:
                self.assertLess(seconds(map_world, one, other), 0.5)
                for first in drawn_maps(rng, one, other, 2):
                    self.assertLess(seconds(families, one, other, first, first), 0.1)
        self.assertLess(seconds(families, THREE, ring(10), constant(THREE, 0), constant(THREE, 0)), 1)
        self.assertLess(seconds(map_world, hand(8, []), POINT), 1)
        self.assertLess(seconds(map_world, EQUALIZED, null(40)), 3)


if __name__ == "__main__":
    unittest.main()
