"""[20], [21]: idle arrows that split, completed worlds, exchangeable worlds, shares."""

import unittest

from arrowworlds import errors
from arrowworlds.alikes import are_alike, same_parts
from arrowworlds.families import map_world
from arrowworlds.idles import are_exchangeable, completed, into_completed, is_split, shares_of, split_of
from arrowworlds.joins import are_copies
from arrowworlds.made import product, sum_of
from arrowworlds.maps import does_fill, is_faithful, is_full, map_breach
from arrowworlds.worlds import turned, world_breach
from tests.samples import (APART8, BACK, CHAIN2, CHAIN3, EMPTY, EQUALIZED, FORK, IDLE, POINT, SMALL, SPLIT, TWO, band,
                           between_by_words, check_calls, hand, loops, named_world, null, raised, random_worlds, ring,
                           seconds, shuffled)

EIGHT = (errors.TooMany, {"limit": 8})
FORTY = (errors.TooMany, {"limit": 40})
WORLDS = SMALL + tuple(random_worlds(100, 40, 14)) + tuple(shuffled(world, 4)[0] for world in random_worlds(101, 20, 12))


def idles_by_words(world):
    return [e for e in range(len(world[1])) if world[2][e][e] == e]


def splits_by_words(world, e):
    """All (y, r, s) with r to y and s from y, r.s = e and s.r still."""
    arrows = range(len(world[1]))
    return sorted((y, r, s) for y in range(world[0]) for r in arrows for s in arrows
                  if world[1][r][1] == y and world[1][s][0] == y and world[2][r][s] == e and world[2][s][r] == y)


def completed_by_names(world):
    """The completed world and its arrows by names, in their sequence."""
    idles = idles_by_words(world)
    arrows = [((d,), (e,), (f,)) for d in idles for e in idles for f in range(len(world[1]))
              if world[2][d][f] == f and world[2][f][e] == f]
    stills = [((e,), (e,), (e,)) for e in idles]
    return named_world([(e,) for e in idles], stills, arrows, lambda f, g: (world[2][f[0]][g[0]],))


class Splits(unittest.TestCase):

    def test_by_hand(self):
        self.assertEqual(split_of(SPLIT, 2), (1, 3, 4))
        self.assertEqual(split_of(SPLIT, 0), (0, 0, 0))
        self.assertEqual(split_of(SPLIT, 1), (1, 1, 1))
        self.assertIsNone(split_of(IDLE, 1))
        self.assertEqual(split_of(IDLE, 0), (0, 0, 0))
        # Over the same things the lesser one comes first, though it is not the one at which the arrow stands.
        self.assertEqual(split_of(BACK, 0), (0, 0, 0))
        self.assertEqual(split_of(BACK, 1), (0, 3, 2))
        self.assertTrue(is_split(SPLIT))
        self.assertFalse(is_split(IDLE))
        self.assertTrue(is_split(EMPTY))
        self.assertTrue(is_split(ring(4)))
        self.assertFalse(is_split(band(3)))

    def test_the_least_arrows(self):
        # Twice the split world: there are two things over which the idle arrow splits, by more than one pair.
        world = product(ring(3), SPLIT)
        for e in idles_by_words(world):
            self.assertEqual(split_of(world, e), splits_by_words(world, e)[0])
        e = [e for e in idles_by_words(world) if e >= world[0]][0]
        self.assertEqual(len(splits_by_words(world, e)), 3)
        self.assertEqual(len({r for _, r, _ in splits_by_words(world, e)}), 3)

    def test_by_words(self):
        found = {True: 0, False: 0}
        for world in WORLDS:
            for e in idles_by_words(world):
                every = splits_by_words(world, e)
                self.assertEqual(split_of(world, e), every[0] if every else None)
                found[len(every) > 0] += 1
                parts = {part for y, _, _ in every for part in same_parts(world) if y in part}
                self.assertLessEqual(len(parts), 1)
            self.assertIs(is_split(world), all(splits_by_words(world, e) for e in idles_by_words(world)))
        self.assertGreater(min(found.values()), 30)


class Completed(unittest.TestCase):

    def test_by_hand(self):
        self.assertEqual(completed(EMPTY), EMPTY)
        self.assertEqual(into_completed(EMPTY), ((), ()))
        self.assertEqual(completed(POINT), POINT)
        self.assertEqual(completed(ring(4)), ring(4))
        self.assertEqual(completed(IDLE), SPLIT)
        self.assertEqual(into_completed(IDLE), ((0,), (0, 2)))
        self.assertEqual(completed(CHAIN3), CHAIN3)
        # The things 0, 1, 2 are the arrows 0, 1 and 2; the still arrow of the thing 2 is the arrow 2.
        self.assertEqual(completed(SPLIT),
                         hand(3, [(0, 0), (0, 1), (0, 2), (1, 0), (1, 2), (2, 0), (2, 1)],
                              {(3, 3): 3, (3, 4): 4, (3, 5): 5, (4, 6): 3, (4, 7): 5, (5, 8): 3, (5, 9): 4,
                               (6, 3): 6, (6, 4): 1, (6, 5): 7, (7, 8): 6, (7, 9): 1,
                               (8, 3): 8, (8, 4): 9, (8, 5): 2, (9, 6): 8, (9, 7): 2}))
        self.assertEqual(into_completed(SPLIT), ((0, 1), (0, 1, 3, 4, 6)))

    def test_by_names(self):
        seen = 0
        for world in WORLDS:
            if len(idles_by_words(world)) <= 8 and raised(completed, world) is None:
                made, into = completed(world), into_completed(world)
                self.assertIsNone(world_breach(made))
                self.assertEqual(made, completed_by_names(world))
                self.assertIsNone(map_breach(world, made, into))
                self.assertEqual(into[0], tuple(range(world[0])))
                self.assertTrue(is_full(world, made, into))
                self.assertTrue(is_faithful(world, made, into))
                self.assertIs(does_fill(world, made, into), is_split(world))
                self.assertTrue(is_split(made))
                self.assertIs(are_alike(world, made), is_split(world))
                # In a completed world each thing is a share of one to which the map leads.
                self.assertEqual({y for x in into[0] for y in shares_of(made, x)}, set(range(made[0])))
                seen += made[0] > world[0]
        self.assertGreater(seen, 10)

    def test_still_arrows_first(self):
        # The still arrow of the thing 1 of this completed world is the arrow 2 of the world.
        world = loops([[0, 1, 2], [1, 0, 2], [2, 2, 2]])
        made = completed(world)
        self.assertEqual(made, completed_by_names(world))
        self.assertEqual(made[1][:2], ((0, 0), (1, 1)))
        self.assertEqual(into_completed(world), ((0,), (0, 2, 3)))

    def test_too_many(self):
        self.assertEqual(raised(completed, band(9)), EIGHT)
        self.assertEqual(raised(into_completed, band(9)), EIGHT)
        self.assertEqual(completed(APART8), APART8)
        # Between any two of the idle arrows of a band one arrow leads at least.
        for function in (completed, into_completed):
            self.assertEqual(raised(function, band(8)), FORTY)
            self.assertEqual(raised(function, band(40)), EIGHT)
            self.assertEqual(raised(function, sum_of(band(8), POINT)), EIGHT)
            self.assertEqual(raised(function, turned(band(9))), EIGHT)
            self.assertIsNone(raised(function, ring(40)))
            self.assertIsNone(raised(function, sum_of(hand(7, []), ring(33))))
        # A null has one arrow more for each two of its two idle arrows, but for the still one.
        self.assertEqual(len(completed(null(37))[1]), 40)
        self.assertEqual(len(into_completed(null(37))[1]), 37)
        self.assertEqual(raised(completed, null(38)), FORTY)
        self.assertEqual(raised(into_completed, null(38)), FORTY)


class Exchangeable(unittest.TestCase):

    def test_by_hand(self):
        self.assertIs(are_exchangeable(IDLE, SPLIT), True)
        self.assertIs(are_exchangeable(SPLIT, IDLE), True)
        self.assertIs(are_exchangeable(IDLE, POINT), False)
        self.assertIs(are_exchangeable(IDLE, CHAIN2), False)
        self.assertIs(are_exchangeable(EMPTY, EMPTY), True)
        self.assertIs(are_exchangeable(POINT, BACK), True)
        self.assertIs(are_exchangeable(sum_of(IDLE, POINT), sum_of(BACK, SPLIT)), True)
        self.assertIs(are_exchangeable(band(3), turned(band(3))), False)

    def test_by_completed_worlds(self):
        found = {True: 0, False: 0}
        for one in WORLDS:
            for other in WORLDS[::4]:
                if raised(completed, one) is None and raised(completed, other) is None:
                    expected = are_alike(completed(one), completed(other))
                    self.assertIs(are_exchangeable(one, other), expected)
                    self.assertIs(are_exchangeable(turned(one), turned(other)), expected)
                    if are_alike(one, other):
                        self.assertTrue(expected)
                    if is_split(one) and is_split(other):
                        self.assertIs(are_alike(one, other), expected)
                    found[expected] += 1
        self.assertGreater(min(found.values()), 30)

    def test_errors_of_the_first_world_first(self):
        eight, forty = band(9), band(8)
        self.assertEqual(raised(are_exchangeable, eight, forty), EIGHT)
        self.assertEqual(raised(are_exchangeable, forty, eight), FORTY)
        self.assertEqual(raised(are_exchangeable, POINT, eight), EIGHT)
        self.assertEqual(raised(are_exchangeable, forty, POINT), FORTY)
        self.assertEqual(raised(are_exchangeable, TWO, forty), FORTY)

    def test_maps_to_split_worlds(self):
        seen = 0
        for one in (IDLE, SPLIT, band(3), sum_of(IDLE, POINT)):
            for other in (SPLIT, POINT, CHAIN2, ring(2), BACK):
                first, second = (map_world, completed(one), other), (map_world, one, other)
                if raised(*first) is None and raised(*second) is None:
                    self.assertTrue(are_alike(map_world(completed(one), other), map_world(one, other)))
                    seen += 1
        self.assertGreater(seen, 10)


class Shares(unittest.TestCase):

    def test_by_hand(self):
        self.assertEqual(shares_of(SPLIT, 0), (0, 1))
        self.assertEqual(shares_of(SPLIT, 1), (1,))
        self.assertEqual(shares_of(BACK, 0), (0, 1))
        self.assertEqual(shares_of(BACK, 1), (0, 1))
        self.assertEqual(shares_of(CHAIN3, 1), (1,))
        self.assertEqual(shares_of(FORK, 0), (0,))
        self.assertEqual(shares_of(completed(EQUALIZED), 2), (2,))

    def test_by_words(self):
        seen = 0
        for world in WORLDS:
            for x in range(world[0]):
                expected = [y for y in range(world[0]) if any(world[2][s][r] == y for r in between_by_words(world, x, y)
                                                              for s in between_by_words(world, y, x))]
                self.assertEqual(shares_of(world, x), tuple(expected))
                seen += expected != [x]
        self.assertGreater(seen, 5)


class Calls(unittest.TestCase):

    def test_calls(self):
        check_calls(self, split_of, {"world": SPLIT, "e": 2})
        check_calls(self, split_of, {"world": IDLE, "e": 1})
        for function in (is_split, completed, into_completed):
            check_calls(self, function, {"world": SPLIT})
        check_calls(self, are_exchangeable, {"one": SPLIT, "other": IDLE})
        check_calls(self, shares_of, {"world": SPLIT, "x": 1})

    def test_how_long_it_takes(self):
        for world in random_worlds(102, 20, 14):
            for function in (is_split, completed, into_completed):
                self.assertLess(seconds(function, world), 0.1)
            self.assertLess(seconds(are_exchangeable, world, world), 0.1)
        for world in (band(40), null(37), ring(40), APART8, product(CHAIN2, ring(10))):
            for function in (is_split, completed, into_completed):
                self.assertLess(seconds(function, world), 1)

    def test_copies(self):
        for k, world in enumerate((SPLIT, IDLE, band(3))):
            self.assertTrue(are_copies(completed(world), completed(shuffled(world, k)[0])))


if __name__ == "__main__":
    unittest.main()
