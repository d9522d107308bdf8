"""[18], [19]: things that are the same, skeletons, and alike worlds."""

import unittest

from arrowworlds.alikes import alikeness, are_alike, is_alikeness, same_parts, skeleton, skeleton_map
from arrowworlds.joins import are_copies
from arrowworlds.made import part_of, product, renumbered, sum_of
from arrowworlds.maps import behind, does_fill, is_faithful, is_full, map_breach, maps_between, still_map
from arrowworlds.worlds import turned
from tests.samples import (APART8, BACK, CHAIN2, CHAIN3, EMPTY, FORK, IDLE, POINT, SMALL, SPLIT, TWO, WRONG_VALUES,
                           band, between_by_words, check_calls, cycles, hand, is_family_by_words, null, random_worlds,
                           ring, seconds, shuffled, turnable_by_words, with_others)

# The things 0 and 2 are the same, so are 1, 3 and 4.
MIXED = renumbered(sum_of(BACK, product(hand(3, [(0, 1), (0, 2), (1, 0), (1, 2), (2, 0), (2, 1)],
                                             {(3, 5): 0, (5, 3): 1, (4, 7): 0, (7, 4): 2, (6, 8): 1, (8, 6): 2,
                                              (3, 6): 4, (4, 8): 3, (5, 4): 6, (6, 7): 5, (7, 3): 8, (8, 5): 7}),
                                       ring(2))), (0, 2, 1, 3, 4))


def parts_by_words(world):
    turnable = turnable_by_words(world)
    parts = {tuple(y for y in range(world[0]) if any(f in turnable for f in between_by_words(world, x, y)))
             for x in range(world[0])}
    return tuple(sorted(parts))


def doubled(world, k):
    """A world alike to the given one in which each thing stands k times."""
    each = [(a, b) for a in range(k) for b in range(k) if a != b]
    made = {(k + each.index((a, b)), k + each.index((b, c))): a if a == c else k + each.index((a, c))
            for a, b in each for c in range(k) if c != b}
    return product(hand(k, each, made), world)


class Sames(unittest.TestCase):

    def test_by_hand(self):
        self.assertEqual(same_parts(EMPTY), ())
        self.assertEqual(same_parts(POINT), ((0,),))
        self.assertEqual(same_parts(BACK), ((0, 1),))
        self.assertEqual(same_parts(TWO), ((0,), (1,)))
        self.assertEqual(same_parts(CHAIN3), ((0,), (1,), (2,)))
        # There and back does not make things the same.
        self.assertEqual(same_parts(SPLIT), ((0,), (1,)))
        self.assertEqual(same_parts(sum_of(BACK, BACK)), ((0, 1), (2, 3)))
        self.assertEqual(same_parts(renumbered(sum_of(BACK, BACK), (0, 2, 1, 3))), ((0, 2), (1, 3)))
        self.assertEqual(same_parts(renumbered(sum_of(BACK, TWO), (2, 1, 3, 0))), ((0,), (1, 3), (2,)))
        self.assertEqual(same_parts(MIXED), ((0, 2), (1, 3, 4)))
        self.assertEqual(same_parts(ring(5)), ((0,),))

    def test_by_words(self):
        for k, world in enumerate(SMALL + tuple(random_worlds(90, 20, 12))):
            self.assertEqual(same_parts(world), parts_by_words(world))
            if world[0] <= 4 and len(world[1]) <= 10:
                double = shuffled(doubled(world, 2), k)[0]
                self.assertEqual(same_parts(double), parts_by_words(double))
                self.assertEqual(len(same_parts(double)), len(same_parts(world)))

    def test_skeleton_by_hand(self):
        self.assertEqual(skeleton(EMPTY), EMPTY)
        self.assertEqual(skeleton_map(EMPTY), ((), ()))
        self.assertEqual(skeleton(BACK), POINT)
        self.assertEqual(skeleton_map(BACK), ((0,), (0,)))
        self.assertEqual(skeleton(MIXED), hand(2, [(1, 1)], {(2, 2): 1}))
        self.assertEqual(skeleton_map(MIXED)[0], (0, 1))
        self.assertEqual(skeleton(SPLIT), SPLIT)
        self.assertEqual(skeleton_map(SPLIT), still_map(SPLIT))
        # The arrows of this world do not stand in the sequence of those of its skeleton.
        world = hand(3, [(1, 2), (0, 2), (0, 1), (0, 1)], {(5, 3): 4, (6, 3): 4})
        self.assertEqual(skeleton_map(world), ((0, 1, 2), (0, 1, 2, 5, 6, 4, 3)))
        self.assertEqual(skeleton(world), hand(3, [(0, 1), (0, 1), (0, 2), (1, 2)], {(3, 6): 5, (4, 6): 5}))
        other = sum_of(BACK, FORK)
        self.assertEqual(skeleton_map(other), ((0, 2, 3), (0, 2, 3, 6, 7)))
        self.assertEqual(skeleton(other), sum_of(POINT, FORK))

    def test_skeleton_is_the_part_of_the_least_things(self):
        for k, small in enumerate(SMALL + tuple(random_worlds(91, 20, 10))):
            for world in (small, shuffled(small, k)[0]) + self.doubles(small, k):
                least = tuple(part[0] for part in parts_by_words(world))
                self.assertEqual(skeleton(world), part_of(world, least))
                along = skeleton_map(world)
                self.assertEqual(along[0], least)
                self.assertIsNone(map_breach(skeleton(world), world, along))
                self.assertEqual(len(set(along[1])), len(along[1]))
                self.assertTrue(is_full(skeleton(world), world, along))
                self.assertTrue(is_faithful(skeleton(world), world, along))
                self.assertTrue(does_fill(skeleton(world), world, along))

    def doubles(self, world, k):
        return (shuffled(doubled(world, 2), k)[0],) if world[0] <= 4 and len(world[1]) <= 10 else ()


class Alike(unittest.TestCase):

    def check(self, one, other, expected):
        found = alikeness(one, other)
        self.assertIs(are_alike(one, other), expected)
        self.assertEqual(found is not None, expected)
        if expected:
            self.check_words(one, other, found)
            self.assertIs(is_alikeness(one, other, found), True)
        return found

    def check_words(self, one, other, found):
        there, back, a, b = found
        self.assertIsNone(map_breach(one, other, there))
        self.assertIsNone(map_breach(other, one, back))
        round_trip, other_trip = behind(there, back), behind(back, there)
        for x in range(one[0]):
            self.assertEqual(one[1][a[x]], (x, round_trip[0][x]))
            self.assertIn(a[x], turnable_by_words(one))
        for y in range(other[0]):
            self.assertEqual(other[1][b[y]], (other_trip[0][y], y))
            self.assertIn(b[y], turnable_by_words(other))
        self.assertTrue(is_family_by_words(one, one, still_map(one), round_trip, a))
        self.assertTrue(is_family_by_words(other, other, other_trip, still_map(other), b))

    def test_unlike_numbers_of_things(self):
        self.check(POINT, BACK, True)
        self.check(BACK, POINT, True)
        self.check(EMPTY, EMPTY, True)
        self.check(MIXED, sum_of(POINT, ring(2)), True)
        self.check(sum_of(POINT, ring(2)), MIXED, True)
        for k, world in enumerate((CHAIN2, CHAIN3, FORK, SPLIT, IDLE, ring(3), ring(5), band(3), null(4))):
            if len(world[1]) <= 10:
                self.check(doubled(world, 2), world, True)
                self.check(world, shuffled(doubled(world, 2), k)[0], True)
                self.check(shuffled(doubled(world, 2), k + 1)[0], shuffled(world, k)[0], True)
        self.check(doubled(ring(4), 3), doubled(ring(4), 2), True)
        self.check(doubled(ring(2), 4), ring(2), True)

    def test_none(self):
        self.check(EMPTY, POINT, False)
        self.check(POINT, TWO, False)
        self.check(SPLIT, POINT, False)
        self.check(CHAIN2, FORK, False)
        self.check(IDLE, ring(2), False)
        self.check(band(3), turned(band(3)), False)
        self.check(doubled(ring(4), 2), product(ring(2), ring(2)), False)
        self.check(cycles([3] * 12), cycles([3] * 10 + [6]), False)

    def test_exactly_if_skeletons_are_copies(self):
        found = {True: 0, False: 0}
        worlds = SMALL + tuple(random_worlds(92, 20, 10))
        worlds += tuple(shuffled(world, k)[0] for k, world in enumerate(worlds))
        worlds += tuple(doubled(world, 2) for world in worlds if world[0] <= 4 and len(world[1]) <= 6)
        for one in worlds:
            for other in worlds[::3]:
                same = are_copies(skeleton(one), skeleton(other))
                self.check(one, other, same)
                found[same] += 1
        self.assertGreater(min(found.values()), 100)

    def test_great_ones(self):
        self.check(hand(7, []), hand(7, []), True)
        self.check(APART8, APART8, True)
        self.check(APART8, hand(7, []), False)
        for world in (band(40), null(40), cycles([5] * 7), ring(40)):
            self.check(world, shuffled(world, 3)[0], True)
        self.check(doubled(APART8, 1), APART8, True)
        self.check(doubled(hand(4, []), 2), hand(4, []), True)
        self.check(doubled(ring(10), 2), ring(10), True)
        self.check(doubled(band(10), 2), shuffled(doubled(band(10), 2), 1)[0], True)
        self.assertLess(seconds(alikeness, null(40), shuffled(null(40), 3)[0]), 1)
        self.assertLess(seconds(alikeness, APART8, APART8), 1)

    def test_a_map_that_fills_and_is_full_and_faithful_is_in_one(self):
        for one in (POINT, BACK, IDLE, SPLIT):
            for other in (BACK, SPLIT, IDLE, doubled(IDLE, 2)):
                good = [along for along in maps_between(one, other)
                        if is_full(one, other, along) and is_faithful(one, other, along) and does_fill(one, other, along)]
                self.assertEqual(are_alike(one, other), len(good) > 0)


class IsAlikeness(unittest.TestCase):

    def check(self, one, other, value, expected):
        self.assertIs(is_alikeness(one, other, value), expected, value)

    def test_by_hand(self):
        good = (((0,), (0,)), ((0, 0), (0, 0, 0, 0)), (0,), (0, 2))
        self.check(POINT, BACK, good, True)
        self.check(BACK, POINT, good, False)
        self.check(POINT, BACK, (good[0], good[1], (0,), (0, 1)), False)
        self.check(POINT, BACK, (good[0], good[1], (0,), (0, 3)), False)
        self.check(POINT, BACK, (((1,), (1,)), good[1], (0,), (0, 2)), False)
        self.check(POINT, BACK, (((1,), (1,)), good[1], (0,), (3, 1)), True)
        self.check(BACK, POINT, (good[1], good[0], (0, 3), (0,)), True)
        self.check(BACK, POINT, (good[1], good[0], (0, 2), (0,)), False)
        self.check(EMPTY, EMPTY, (((), ()), ((), ()), (), ()), True)

    def test_other_turnable_arrows(self):
        # A ring of 4 and twice its things: any turnable entries that go along will do.
        still = still_map(ring(4))
        for f in range(4):
            for g in range(4):
                self.check(ring(4), ring(4), (still, still, (f,), (g,)), True)
        self.check(band(3), band(3), (still_map(band(3)), still_map(band(3)), (0,), (0,)), True)
        self.check(band(3), band(3), (still_map(band(3)), still_map(band(3)), (1,), (0,)), False)
        # The arrow 1 of a null that is an idle one, and goes along with all others, is not turnable.
        still = still_map(null(3))
        self.check(null(3), null(3), (still, still, (0,), (0,)), True)
        self.check(null(3), null(3), (still, still, (1,), (0,)), False)
        self.check(null(3), null(3), (still, still, (0,), (1,)), False)

    def test_bent_at_each_entry(self):
        for one, other in ((BACK, POINT), (doubled(IDLE, 2), IDLE), (doubled(CHAIN2, 2), CHAIN2), (SPLIT, SPLIT)):
            good = alikeness(one, other)
            self.check(one, other, good, True)
            there, back, a, b = good
            for more in maps_between(one, other):
                if more != there:
                    self.check(one, other, (more, back, a, b), self.words(one, other, (more, back, a, b)))
            for more in maps_between(other, one):
                self.check(one, other, (there, more, a, b), self.words(one, other, (there, more, a, b)))
            for k in range(len(a)):
                for f in range(len(one[1])):
                    value = (there, back, a[:k] + (f,) + a[k + 1:], b)
                    self.check(one, other, value, self.words(one, other, value))
            for k in range(len(b)):
                for f in range(len(other[1])):
                    value = (there, back, a, b[:k] + (f,) + b[k + 1:])
                    self.check(one, other, value, self.words(one, other, value))

    def words(self, one, other, value):
        there, back, a, b = value
        trip, other_trip = behind(there, back), behind(back, there)
        if any(one[1][f] != (x, trip[0][x]) or f not in turnable_by_words(one) for x, f in enumerate(a)):
            return False
        if any(other[1][f] != (other_trip[0][y], y) or f not in turnable_by_words(other) for y, f in enumerate(b)):
            return False
        return (is_family_by_words(one, one, still_map(one), trip, a)
                and is_family_by_words(other, other, other_trip, still_map(other), b))

    def test_maps_exchanged(self):
        one = doubled(IDLE, 2)
        there, back, a, b = alikeness(one, IDLE)
        self.check(one, IDLE, (back, there, a, b), False)
        self.check(one, IDLE, (there, back, b, a), False)
        self.check(IDLE, one, (there, back, a, b), False)
        self.check(one, IDLE, (there, back, a), False)
        self.check(one, IDLE, (there, back, a, b, b), False)

    def test_values_of_other_kinds(self):
        for one, other in ((POINT, BACK), (BACK, POINT), (TWO, TWO), (EMPTY, EMPTY)):
            good = alikeness(one, other)
            for value in with_others(good):
                if repr(value) != repr(good):
                    self.check(one, other, value, False)
            for value in WRONG_VALUES:
                self.check(one, other, value, False)
        still = still_map(TWO)
        self.check(TWO, TWO, (still, still, (0, 1), (0, 1)), True)
        self.check(TWO, TWO, (still, still, (False, True), (0, 1)), False)
        self.check(TWO, TWO, (((False, 1), (0, 1)), still, (0, 1), (0, 1)), False)
        self.check(TWO, TWO, (still, still, (0, 1), [0, 1]), False)


class Calls(unittest.TestCase):

    def test_calls(self):
        for function in (same_parts, skeleton, skeleton_map):
            check_calls(self, function, {"world": MIXED})
        check_calls(self, alikeness, {"one": doubled(IDLE, 2), "other": IDLE})
        check_calls(self, are_alike, {"one": doubled(IDLE, 2), "other": IDLE})
        check_calls(self, is_alikeness, {"one": doubled(IDLE, 2), "other": IDLE,
                                         "value": alikeness(doubled(IDLE, 2), IDLE)})
        check_calls(self, is_alikeness, {"one": BACK, "other": IDLE, "value": [{}]})

    def test_how_long_it_takes(self):
        for world in random_worlds(93, 20, 14):
            for function in (same_parts, skeleton, skeleton_map):
                self.assertLess(seconds(function, world), 0.1)
            self.assertLess(seconds(alikeness, world, shuffled(world, 1)[0]), 0.1)


if __name__ == "__main__":
    unittest.main()
