"""[8], [9]: arrows put together to parts, and copies."""

import itertools
import unittest

from arrowworlds import errors
from arrowworlds.joins import are_copies, copies, into_joined, joined, joined_parts
from arrowworlds.made import product, sum_of
from arrowworlds.maps import behind, map_breach, maps_between
from arrowworlds.worlds import turned, world_breach
from tests.samples import (APART8, BACK, CHAIN2, CHAIN3, EMPTY, EQUALIZED, FORK, IDLE, POINT, SMALL, SPLIT, TWO,
                           all_copies, band, check_calls, cycles, hand, loops, null, raised, random_worlds, ring,
                           shuffled)

THOUSAND = (errors.TooMany, {"limit": 1000})
# The arrows do not stand in the sequence of [2]; 5 and 6 make the same with 3.
MIXED = hand(3, [(1, 2), (0, 2), (0, 1), (0, 1)], {(5, 3): 4, (6, 3): 4})
# Two arrows from 0 to 1, two from 1 to 2, and the four that they make.
FOUR = hand(3, [(0, 1), (0, 1), (0, 2), (0, 2), (0, 2), (0, 2), (1, 2), (1, 2)],
            {(3, 9): 5, (3, 10): 6, (4, 9): 7, (4, 10): 8})


def parts_by_words(world, pairs):
    """The finest parting, found by going over all that [8] asks for until nothing is left to do."""
    arrows = range(len(world[1]))
    part = list(arrows)
    changed = True
    while changed:
        changed = False
        wanted = list(pairs)
        for f, g in itertools.product(arrows, arrows):
            for h, k in itertools.product(arrows, arrows):
                if part[f] == part[g] and part[h] == part[k] and world[2][f][h] >= 0:
                    wanted.append((world[2][f][h], world[2][g][k]))
        for f, g in wanted:
            if part[f] != part[g]:
                part = [part[f] if p == part[g] else p for p in part]
                changed = True
    return tuple(sorted(set(tuple(f for f in arrows if part[f] == part[g]) for g in arrows)))


def parallel_pairs(world):
    ends = world[1]
    return [(f, g) for f in range(len(ends)) for g in range(f + 1, len(ends)) if ends[f] == ends[g]]


class Parts(unittest.TestCase):

    def test_by_hand(self):
        self.assertEqual(joined_parts(FORK, ((2, 3),)), ((0,), (1,), (2, 3)))
        self.assertEqual(joined_parts(FORK, ((3, 2),)), ((0,), (1,), (2, 3)))
        self.assertEqual(joined_parts(SPLIT, ((0, 2),)), ((0, 2), (1,), (3,), (4,)))
        self.assertEqual(joined_parts(EQUALIZED, ((3, 4),)), ((0,), (1,), (2,), (3, 4), (5,), (6,)))
        self.assertEqual(joined_parts(FOUR, ((3, 4),)), ((0,), (1,), (2,), (3, 4), (5, 7), (6, 8), (9,), (10,)))
        self.assertEqual(joined_parts(FOUR, ((10, 9),)), ((0,), (1,), (2,), (3,), (4,), (5, 6), (7, 8), (9, 10)))
        self.assertEqual(joined_parts(FOUR, ((3, 4), (9, 10))), ((0,), (1,), (2,), (3, 4), (5, 6, 7, 8), (9, 10)))
        self.assertEqual(joined_parts(FOUR, ((5, 8),)), ((0,), (1,), (2,), (3,), (4,), (5, 8), (6,), (7,), (9,), (10,)))

    def test_again_and_again(self):
        twelve = ring(12)
        self.assertEqual(joined_parts(twelve, ((0, 8),)), ((0, 4, 8), (1, 5, 9), (2, 6, 10), (3, 7, 11)))
        self.assertEqual(joined_parts(twelve, ((1, 7), (2, 10))),
                         ((0, 2, 4, 6, 8, 10), (1, 3, 5, 7, 9, 11)))
        self.assertEqual(joined_parts(twelve, ((3, 8),)), (tuple(range(12)),))
        # Steps that end at 5: 1 and 3 are one, so are 2 and 4, and 3 and 5, and at last 4 and 5.
        steps = loops([[min(a + b, 5) for b in range(6)] for a in range(6)])
        self.assertEqual(joined_parts(steps, ((1, 3),)), ((0,), (1, 2, 3, 4, 5)))
        self.assertEqual(joined_parts(steps, ((3, 4),)), ((0,), (1,), (2,), (3, 4, 5)))

    def test_no_pair_one_pair_twice_and_a_pair_of_one_arrow(self):
        for world in SMALL:
            each = tuple((f,) for f in range(len(world[1])))
            self.assertEqual(joined_parts(world, ()), each)
            self.assertEqual(joined_parts(world, tuple((f, f) for f in range(len(world[1])))), each)
        self.assertEqual(joined_parts(FORK, ((2, 3), (2, 3), (3, 2), (3, 3))), ((0,), (1,), (2, 3)))

    def test_by_the_words(self):
        for world in random_worlds(10, 25, 9):
            pairs = parallel_pairs(world)
            self.assertEqual(joined_parts(world, ()), parts_by_words(world, ()))
            for pair in pairs:
                self.assertEqual(joined_parts(world, (pair,)), parts_by_words(world, (pair,)))
            self.assertEqual(joined_parts(world, tuple(pairs[::3])), parts_by_words(world, pairs[::3]))


class Joined(unittest.TestCase):

    def test_by_hand(self):
        self.assertEqual(joined(FORK, ((2, 3),)), CHAIN2)
        self.assertEqual(into_joined(FORK, ((2, 3),)), ((0, 1), (0, 1, 2, 2)))
        self.assertEqual(joined(SPLIT, ((0, 2),)), BACK)
        self.assertEqual(into_joined(SPLIT, ((2, 0),)), ((0, 1), (0, 1, 0, 2, 3)))
        self.assertEqual(joined(ring(6), ((1, 3),)), ring(2))
        self.assertEqual(into_joined(ring(6), ((1, 3),)), ((0,), (0, 1, 0, 1, 0, 1)))
        self.assertEqual(joined(MIXED, ((5, 6),)), CHAIN3)
        self.assertEqual(into_joined(MIXED, ((5, 6),)), ((0, 1, 2), (0, 1, 2, 5, 4, 3, 3)))
        self.assertEqual(joined(FOUR, ((3, 4),)),
                         hand(3, [(0, 1), (0, 2), (0, 2), (1, 2), (1, 2)], {(3, 6): 4, (3, 7): 5}))
        self.assertEqual(joined(EMPTY, ()), EMPTY)
        self.assertEqual(into_joined(EMPTY, ()), ((), ()))

    def test_no_pair_orders_the_arrows(self):
        self.assertEqual(joined(MIXED, ()), EQUALIZED)
        self.assertEqual(into_joined(MIXED, ()), ((0, 1, 2), (0, 1, 2, 6, 5, 3, 4)))

    def test_both_go_together(self):
        for world in random_worlds(11, 15, 20):
            for pair in parallel_pairs(world)[:4]:
                made = joined(world, (pair,))
                into = into_joined(world, (pair,))
                self.assertIsNone(world_breach(made))
                self.assertIsNone(map_breach(world, made, into))
                parts = joined_parts(world, (pair,))
                self.assertEqual(len(parts), len(made[1]))
                self.assertEqual(sorted(parts), sorted(tuple(f for f, k in enumerate(into[1]) if k == part)
                                                       for part in range(len(made[1]))))

    def test_each_map_that_keeps_the_pairs_goes_over_it_in_one_way(self):
        others = (CHAIN2, FORK, SPLIT, IDLE, ring(2), band(3))
        for world in (FORK, SPLIT, EQUALIZED, ring(4), null(3), MIXED):
            for other in others:
                for pairs in ((pair,) for pair in parallel_pairs(world)):
                    kept = [along for along in maps_between(world, other)
                            if all(along[1][f] == along[1][g] for f, g in pairs)]
                    over = [behind(into_joined(world, pairs), along)
                            for along in maps_between(joined(world, pairs), other)]
                    self.assertEqual(sorted(over), kept)


class Copies(unittest.TestCase):

    def test_by_hand(self):
        self.assertEqual(copies(EMPTY, EMPTY), (((), ()),))
        self.assertEqual(copies(TWO, TWO), (((0, 1), (0, 1)), ((1, 0), (1, 0))))
        self.assertEqual(copies(FORK, FORK), (((0, 1), (0, 1, 2, 3)), ((0, 1), (0, 1, 3, 2))))
        self.assertEqual(copies(CHAIN2, turned(CHAIN2)), (((1, 0), (1, 0, 2)),))
        self.assertEqual(copies(BACK, BACK), (((0, 1), (0, 1, 2, 3)), ((1, 0), (1, 0, 3, 2))))
        self.assertEqual(copies(ring(5), ring(5)), (((0,), (0, 1, 2, 3, 4)), ((0,), (0, 2, 4, 1, 3)),
                                                    ((0,), (0, 3, 1, 4, 2)), ((0,), (0, 4, 3, 2, 1))))
        self.assertEqual(copies(MIXED, EQUALIZED), (((0, 1, 2), (0, 1, 2, 6, 5, 3, 4)), ((0, 1, 2), (0, 1, 2, 6, 5, 4, 3))))

    def test_they_ascend(self):
        world = sum_of(ring(5), ring(3))
        found = copies(world, world)
        self.assertEqual(len(found), 8)
        self.assertEqual(found, all_copies(world, world))

    def test_none(self):
        self.assertEqual(copies(FORK, turned(EQUALIZED)), ())
        self.assertEqual(copies(IDLE, ring(2)), ())
        self.assertEqual(copies(POINT, TWO), ())
        self.assertEqual(copies(EMPTY, POINT), ())
        self.assertEqual(copies(CHAIN2, hand(2, [(0, 0)], {(2, 2): 2})), ())
        self.assertEqual(copies(EQUALIZED, turned(EQUALIZED)), ())
        self.assertEqual(copies(band(3), turned(band(3))), ())

    def test_unlike_numbers(self):
        self.assertFalse(are_copies(POINT, TWO))
        self.assertFalse(are_copies(ring(3), ring(4)))
        self.assertFalse(are_copies(CHAIN2, ring(3)))

    def test_all_of_small_worlds(self):
        worlds = SMALL + tuple(random_worlds(12, 20, 7))
        for one in worlds:
            for other in worlds:
                if len(one[1]) - one[0] <= 5:
                    found = copies(one, other)
                    self.assertEqual(found, all_copies(one, other))
                    self.assertEqual(are_copies(one, other), len(found) > 0)

    def test_shuffled(self):
        for k, world in enumerate(random_worlds(13, 15, 40)):
            other, along = shuffled(world, k)
            self.assertTrue(are_copies(world, other))
            try:
                self.assertIn(along, copies(world, other))
            except errors.TooMany as e:
                self.assertEqual(e.limit, 1000)

    def test_at_most_a_thousand(self):
        six, seven = hand(6, []), hand(7, [])
        self.assertEqual(len(copies(six, six)), 720)
        self.assertEqual(raised(copies, seven, seven), THOUSAND)
        self.assertEqual(raised(copies, APART8, APART8), THOUSAND)

    def test_just_a_thousand(self):
        # Ten copies to itself has each of: the ring of 11, that with an arrow 11 which takes all away, and
        # that with another still arrow.
        eleven = ring(11)
        away = loops([[11 if 11 in (a, b) else (a + b) % 11 for b in range(12)] for a in range(12)])
        again = loops([[a + b if 0 in (a, b) else (a + b - 2) % 11 + 1 for b in range(12)] for a in range(12)])
        world = sum_of(eleven, sum_of(away, again))
        found = copies(world, world)
        self.assertEqual(len(found), 1000)
        self.assertEqual(list(found), sorted(set(found)))
        more = sum_of(ring(13), sum_of(away, again))
        self.assertEqual(raised(copies, more, more), THOUSAND)

    def test_too_many_of_great_worlds(self):
        for world in (band(40), null(40)):
            self.assertEqual(raised(copies, world, shuffled(world, 1)[0]), THOUSAND)

    def test_great_worlds(self):
        self.assertTrue(are_copies(APART8, APART8))
        for world in (band(40), null(40), turned(band(40)), ring(40), cycles([3] * 10 + [6]), cycles([18, 18])):
            self.assertTrue(are_copies(world, shuffled(world, 2)[0]))
        self.assertFalse(are_copies(band(40), null(40)))
        self.assertFalse(are_copies(band(40), turned(band(40))))
        self.assertFalse(are_copies(ring(36), product(ring(6), ring(6))))
        self.assertFalse(are_copies(cycles([3] * 12), cycles([3] * 10 + [6])))
        self.assertFalse(are_copies(cycles([5] * 7), cycles([7] * 5)))

    def test_one_arrow_that_does_something_else(self):
        rows = [list(row) for row in null(39)[2]]
        rows[5][5] = 7
        rows[7][7] = 1
        square = loops(rows)
        rows[5][5] = 1
        rows[5][6] = 7
        other = loops(rows)
        self.assertIsNone(world_breach(square))
        self.assertIsNone(world_breach(other))
        self.assertFalse(are_copies(square, other))
        self.assertEqual(copies(square, other), ())
        self.assertTrue(are_copies(other, shuffled(other, 3)[0]))
        self.assertEqual(raised(copies, square, square), THOUSAND)

    def test_copies_stay_copies(self):
        for k, world in enumerate(random_worlds(14, 10, 6)):
            other, along = shuffled(world, k)
            self.assertTrue(are_copies(turned(world), turned(other)))
            self.assertTrue(are_copies(product(world, CHAIN2), product(other, CHAIN2)))
            for f, g in parallel_pairs(world):
                pair = (along[1][f], along[1][g])
                self.assertTrue(are_copies(joined(world, ((f, g),)), joined(other, (pair,))))


class Calls(unittest.TestCase):

    def test_calls(self):
        for function in (joined_parts, joined, into_joined):
            check_calls(self, function, {"world": FOUR, "pairs": ((3, 4), (5, 6))})
        check_calls(self, copies, {"one": CHAIN2, "other": turned(CHAIN2)})
        check_calls(self, are_copies, {"one": CHAIN2, "other": turned(CHAIN2)})
        check_calls(self, are_copies, {"one": EMPTY, "other": CHAIN3})


if __name__ == "__main__":
    unittest.main()
