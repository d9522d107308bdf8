"""[33]: parts of lots, fans, and truths."""

import itertools
import random
import unittest

from arrowworlds import errors
from arrowworlds.lots import lot_breach, lot_families, lot_sum, single
from arrowworlds.made import product, sum_of
from arrowworlds.orders import chain_world
from arrowworlds.truths import fan_behind, fans, parts_of, so_part, truth_family, truths
from arrowworlds.worlds import world_breach
from tests.samples import (APART8, BACK, CHAIN2, CHAIN3, EMPTY, EQUALIZED, FORK, IDLE, POINT, SMALL, SPLIT, TWO, band,
                           check_calls, hand, null, raised, random_worlds, ring, seconds)
from tests.test_cones import CROSS, SQUARE
from tests.test_lots import FLAT, NO_LOT, constant_lot, drawn_lot, lots_over

FOUR_HUNDRED = (errors.TooMany, {"limit": 400})
FORTY = (errors.TooMany, {"limit": 40})
WORLDS = SMALL + (SQUARE, CROSS) + tuple(random_worlds(180, 12, 10))


def elements_of(world, lot):
    return [(x, k) for x in range(world[0]) for k in range(lot[0][x])]


def parts_by_words(world, lot):
    """All parts, by trying out all sets of elements."""
    every = elements_of(world, lot)
    found = []
    for chosen in itertools.product((False, True), repeat=len(every)):
        part = {element for element, there in zip(every, chosen) if there}
        if all((y, lot[1][f][k]) in part for f, (x, y) in enumerate(world[1]) for z, k in part if z == x):
            found.append(tuple(tuple(k for z, k in every if z == x and (z, k) in part) for x in range(world[0])))
    return sorted(found)


def fans_by_words(world, x):
    """All fans at x, by trying out all sets of arrows from x."""
    arrows = [f for f, pair in enumerate(world[1]) if pair[0] == x]
    found = []
    for chosen in itertools.product((False, True), repeat=len(arrows)):
        fan = tuple(f for f, there in zip(arrows, chosen) if there)
        if all(both == -1 or both in fan for f in fan for both in world[2][f]):
            found.append(fan)
    return sorted(found)


def so_by_words(world, lot, one, other):
    found = []
    for x in range(world[0]):
        row = []
        for k in range(lot[0][x]):
            moved = [(world[1][f][1], lot[1][f][k]) for f in range(len(world[1])) if world[1][f][0] == x]
            if all(j in other[y] for y, j in moved if j in one[y]):
                row.append(k)
        found.append(tuple(row))
    return tuple(found)


def few_lots(world):
    return [lot for lot in lots_over(world) if sum(lot[0]) <= 9]


class Parts(unittest.TestCase):

    def test_by_hand(self):
        chain = ((2, 1), ((0, 1), (0,), (0, 0)))
        self.assertEqual(parts_of(CHAIN2, chain), (((), ()), ((), (0,)), ((0,), (0,)), ((0, 1), (0,)), ((1,), (0,))))
        self.assertEqual(parts_of(POINT, ((2,), ((0, 1),))), (((),), ((0,),), ((0, 1),), ((1,),)))
        self.assertEqual(parts_of(EMPTY, NO_LOT), ((),))
        self.assertEqual(parts_of(TWO, ((0, 0), ((), ()))), (((), ()),))
        self.assertEqual(parts_of(ring(2), ((3,), ((0, 1, 2), (1, 0, 2)))), (((),), ((0, 1),), ((0, 1, 2),), ((2,),)))
        self.assertEqual(parts_of(IDLE, single(IDLE, 0)), (((),), ((0, 1),), ((1,),)))

    def test_by_trying_all_sets(self):
        seen = 0
        for world in WORLDS:
            for lot in few_lots(world):
                self.assertEqual(parts_of(world, lot), tuple(parts_by_words(world, lot)))
                seen += 1
        rng = random.Random(181)
        for world in FLAT:
            for _ in range(12):
                lot = drawn_lot(rng, world, 3)
                if sum(lot[0]) <= 9:
                    expected = parts_by_words(world, lot)
                    if len(expected) <= 400:
                        self.assertEqual(parts_of(world, lot), tuple(expected))
                    else:
                        self.assertEqual(raised(parts_of, world, lot), FOUR_HUNDRED)
                    seen += 1
        self.assertGreater(seen, 150)

    def test_at_most_400(self):
        self.assertEqual(len(parts_of(POINT, constant_lot(POINT, 8))), 256)
        self.assertEqual(raised(parts_of, POINT, constant_lot(POINT, 9)), FOUR_HUNDRED)
        self.assertEqual(raised(parts_of, POINT, constant_lot(POINT, 40)), FOUR_HUNDRED)
        self.assertEqual(raised(parts_of, APART8, constant_lot(APART8, 40)), FOUR_HUNDRED)
        self.assertEqual(len(parts_of(APART8, constant_lot(APART8, 1))), 256)
        # Rows of elements, each led to the next one: n of them have n + 1 parts. 16 times 25 is 400.
        found = parts_of(*rows_of(15, 24))
        self.assertEqual(len(found), 400)
        self.assertEqual(list(found), sorted(set(found)))
        # All but the empty one have one more element: this is a part more.
        self.assertEqual(raised(parts_of, *rows_of(15, 24, True)), FOUR_HUNDRED)
        self.assertEqual(len(parts_of(*rows_of(14, 24, True))), 376)
        for case in (rows_of(15, 24), rows_of(15, 24, True)):
            self.assertIsNone(world_breach(case[0]))
            self.assertIsNone(lot_breach(*case))
        self.assertEqual(raised(parts_of, *rows_of(16, 24)), FOUR_HUNDRED)

    def test_great_ones(self):
        # 320 elements in one part, and in a row.
        world = ring(40)
        self.assertEqual(len(parts_of(world, single(world, 0))), 2)
        eight = chain_world(8)
        lot = ((40,) * 8, (tuple(range(40)),) * 8 + ((0,) * 40,) * 28)
        self.assertIsNone(lot_breach(eight, lot))
        self.assertEqual(raised(parts_of, eight, lot), FOUR_HUNDRED)
        self.assertEqual(len(parts_of(eight, constant_lot(eight, 1))), 9)
        self.assertEqual(len(parts_of(eight, constant_lot(eight, 2))), 81)


def rows_of(one, two, below=False):
    """A world and a lot with two rows of elements, each led to the next one; below: both rows to one more element."""
    world = steps(max(one, two) + 1)
    size = one + two + below

    def moved(k, a):
        for low, high in ((0, one), (one, one + two)):
            if low <= k < high:
                return k + a if k + a < high else size - 1 if below else high - 1
        return k

    return world, ((size,), tuple(tuple(moved(k, a) for k in range(size)) for a in range(len(world[1]))))


def steps(many):
    """One thing whose arrows add up, but for that the last one is not gone beyond."""
    return (1, ((0, 0),) * many, tuple(tuple(min(a + b, many - 1) for b in range(many)) for a in range(many)))


def forest(*trees):
    """Two things; each tree has an arrow from 0 to 1 to which others go on, and to these again others.

    A tree is told by the numbers of the arrows that go on to those that go on to its first one.
    """
    ends, made = [(1, 1), (1, 1)], {(2, 2): 2, (2, 3): 3, (3, 2): 3, (3, 3): 3}
    for tree in trees:
        top = len(ends) + 2
        rows = [top]
        for many in tree:
            rows += [len(rows) + top] * (many + 1)
        for k, near in enumerate(rows):
            made.update({(top + k, 2): near, (top + k, 3): top})
        ends += [(0, 1)] * len(rows)
    return hand(2, ends, made)


class So(unittest.TestCase):

    def test_by_hand(self):
        chain = ((2, 1), ((0, 1), (0,), (0, 0)))
        every, none = ((0, 1), (0,)), ((), ())
        self.assertEqual(so_part(CHAIN2, chain, every, none), none)
        self.assertEqual(so_part(CHAIN2, chain, none, none), every)
        self.assertEqual(so_part(CHAIN2, chain, every, every), every)
        self.assertEqual(so_part(CHAIN2, chain, ((0,), (0,)), ((), (0,))), ((1,), (0,)))
        self.assertEqual(so_part(CHAIN2, chain, ((), (0,)), none), none)
        one = ((2, 2), ((0, 1), (0, 1), (0, 1)))
        # The element 0 at the first thing is not in the one part, but is moved into it and not into the other one.
        self.assertEqual(so_part(CHAIN2, one, ((), (0,)), none), ((1,), (1,)))
        self.assertEqual(so_part(EMPTY, NO_LOT, (), ()), ())

    def test_by_words_and_what_it_is_for(self):
        seen = 0
        for world in WORLDS:
            for lot in few_lots(world)[:6]:
                every = parts_of(world, lot)
                for one in every[:12]:
                    for other in every[-12:]:
                        found = so_part(world, lot, one, other)
                        self.assertEqual(found, so_by_words(world, lot, one, other))
                        self.assertIn(found, every)
                        for part in every[:12]:
                            common = all(k in other[x] for x, k in elements_of(world, lot)
                                         if k in part[x] and k in one[x])
                            within = all(k in found[x] for x, k in elements_of(world, lot) if k in part[x])
                            self.assertEqual(common, within)
                        seen += 1
        self.assertGreater(seen, 1000)


class Fans(unittest.TestCase):

    def test_by_hand(self):
        self.assertEqual(fans(POINT, 0), ((), (0,)))
        self.assertEqual(fans(CHAIN3, 0), ((), (0, 3, 4), (3, 4), (4,)))
        self.assertEqual(fans(CHAIN3, 2), ((), (2,)))
        self.assertEqual(fans(FORK, 0), ((), (0, 2, 3), (2,), (2, 3), (3,)))
        self.assertEqual(fans(ring(4), 0), ((), (0, 1, 2, 3)))
        self.assertEqual(fans(IDLE, 0), ((), (0, 1), (1,)))
        self.assertEqual(fans(SPLIT, 0), ((), (0, 2, 3), (2, 3)))
        # In a band what goes first stays: each arrow that is not still is a fan of its own.
        self.assertEqual(fans(band(3), 0), ((), (0, 1, 2), (1,), (1, 2), (2,)))

    def test_by_trying_all_sets(self):
        for world in WORLDS:
            for x in range(world[0]):
                expected = fans_by_words(world, x)
                self.assertEqual(fans(world, x), tuple(expected))
                self.assertEqual(len(expected), len(parts_of(world, single(world, x))))

    def test_at_most_400(self):
        # A band with k arrows that are not still has 2 to the power k fans, and one more.
        self.assertEqual(len(fans(band(9), 0)), 257)
        self.assertEqual(raised(fans, band(10), 0), FOUR_HUNDRED)
        self.assertEqual(raised(fans, band(40), 0), FOUR_HUNDRED)
        # The fans of a tree are those of what goes on to its first arrow, and one more. 3 times 7 times 19, and one.
        world = forest((0,), (0, 1), (0, 1, 1))
        self.assertIsNone(world_breach(world))
        found = fans(world, 0)
        self.assertEqual(len(found), 400)
        self.assertEqual(list(found), sorted(set(found)))
        self.assertEqual(found, tuple(fans_by_words(world, 0)))
        # 5 times 5 times 2 times 2 times 2 times 2, and one.
        self.assertIsNone(world_breach(forest((0, 0), (0, 0), (), (), (), ())))
        self.assertEqual(raised(fans, forest((0, 0), (0, 0), (), (), (), ()), 0), FOUR_HUNDRED)
        self.assertEqual(len(fans(forest((0, 0), (0, 0), (), (), ()), 0)), 201)
        many = hand(2, [(0, 1)] * 9)
        self.assertEqual(raised(fans, many, 0), FOUR_HUNDRED)
        self.assertEqual(fans(many, 1), ((), (1,)))
        self.assertEqual(len(fans(hand(2, [(0, 1)] * 8), 0)), 257)

    def test_behind(self):
        self.assertEqual(fan_behind(CHAIN3, (4,), 3), (5,))
        self.assertEqual(fan_behind(CHAIN3, (3, 4), 3), (1, 5))
        self.assertEqual(fan_behind(CHAIN3, (), 3), ())
        self.assertEqual(fan_behind(CHAIN3, (3, 4), 0), (3, 4))
        self.assertEqual(fan_behind(FORK, (2,), 3), ())
        self.assertEqual(fan_behind(FORK, (2,), 2), (1,))
        self.assertEqual(fan_behind(band(3), (1,), 1), (0, 1, 2))
        self.assertEqual(fan_behind(band(3), (1,), 2), ())
        for world in WORLDS:
            for f, (x, y) in enumerate(world[1]):
                for fan in fans(world, x):
                    expected = [g for g in range(len(world[1])) if world[1][g][0] == y and world[2][f][g] in fan]
                    self.assertEqual(fan_behind(world, fan, f), tuple(expected))
                    self.assertIn(fan_behind(world, fan, f), fans(world, y))


class Truths(unittest.TestCase):

    def test_by_hand(self):
        self.assertEqual(truths(POINT), ((2,), ((0, 1),)))
        self.assertEqual(truths(EMPTY), NO_LOT)
        # The fans are (), (0, 2), (2,) at 0 and (), (1,) at 1.
        self.assertEqual(truths(CHAIN2), ((3, 2), ((0, 1, 2), (0, 1), (0, 1, 1))))
        self.assertEqual(truths(FORK), ((5, 2), ((0, 1, 2, 3, 4), (0, 1), (0, 1, 1, 1, 0), (0, 1, 0, 1, 1))))
        self.assertEqual(truths(IDLE), ((3,), ((0, 1, 2), (0, 1, 1))))
        self.assertEqual(truths(ring(3)), ((2,), ((0, 1),) * 3))

    def test_by_words(self):
        for world in WORLDS:
            rows = [fans_by_words(world, x) for x in range(world[0])]
            if max([len(row) for row in rows], default=0) <= 40:
                lot = truths(world)
                self.assertIsNone(lot_breach(world, lot))
                moves = tuple(tuple(rows[y].index(tuple(g for g in range(len(world[1])) if world[2][f][g] in fan))
                                    for fan in rows[x]) for f, (x, y) in enumerate(world[1]))
                self.assertEqual(lot, (tuple(len(row) for row in rows), moves))

    def test_family_by_hand(self):
        chain = ((2, 1), ((0, 1), (0,), (0, 0)))
        self.assertEqual(truth_family(CHAIN2, chain, ((0,), (0,))), ((1, 2), (1,)))
        self.assertEqual(truth_family(CHAIN2, chain, ((), ())), ((0, 0), (0,)))
        self.assertEqual(truth_family(CHAIN2, chain, ((), (0,))), ((2, 2), (1,)))
        self.assertEqual(truth_family(EMPTY, NO_LOT, ()), ())

    def test_each_family_to_the_truths_comes_from_one_part(self):
        seen = 0
        for world in WORLDS:
            if raised(truths, world) is None:
                for lot in few_lots(world):
                    parts = parts_of(world, lot)
                    told = [truth_family(world, lot, part) for part in parts]
                    self.assertEqual(len(set(told)), len(parts))
                    if raised(lot_families, world, lot, truths(world)) is None:
                        self.assertEqual(lot_families(world, lot, truths(world)), tuple(sorted(told)))
                        seen += 1
        self.assertGreater(seen, 100)

    def test_too_many(self):
        lot = ((0,), ((),) * 10)
        self.assertEqual(raised(truths, band(10)), FOUR_HUNDRED)
        self.assertEqual(raised(truth_family, band(10), lot, ((),)), FOUR_HUNDRED)
        # 33 and 65 fans.
        self.assertEqual(truths(band(6))[0], (33,))
        self.assertEqual(raised(truths, band(7)), FORTY)
        self.assertEqual(raised(truth_family, band(7), ((0,), ((),) * 7), ((),)), FORTY)
        # More than 40 at the first thing, and more than 400 at the last one.
        both = sum_of(band(7), sum_of(POINT, band(10)))
        none = ((0,) * 3, ((),) * 18)
        self.assertEqual(raised(truths, both), FOUR_HUNDRED)
        self.assertEqual(raised(truth_family, both, none, ((), (), ())), FOUR_HUNDRED)
        self.assertEqual(raised(truths, sum_of(POINT, band(7))), FORTY)

    def test_just_forty_fans(self):
        # Of 39 arrows in a row there are 40 fans.
        self.assertEqual(truths(steps(39))[0], (40,))
        self.assertEqual(raised(truths, steps(40)), FORTY)
        self.assertEqual(len(fans(steps(40), 0)), 41)


class Calls(unittest.TestCase):

    def test_calls(self):
        chain = ((2, 1), ((0, 1), (0,), (0, 0)))
        check_calls(self, parts_of, {"world": CHAIN2, "lot": chain})
        check_calls(self, so_part, {"world": CHAIN2, "lot": chain, "one": ((0,), (0,)), "other": ((), (0,))})
        check_calls(self, fans, {"world": CHAIN3, "x": 0})
        check_calls(self, fan_behind, {"world": CHAIN3, "fan": (3, 4), "f": 3})
        check_calls(self, truths, {"world": FORK})
        check_calls(self, truth_family, {"world": CHAIN2, "lot": chain, "part": ((0,), (0,))})

    def test_how_long_it_takes(self):
        for world in random_worlds(182, 20, 14):
            self.assertLess(seconds(truths, world), 0.1)
            for lot in lots_over(world)[:4]:
                self.assertLess(seconds(parts_of, world, lot), 0.1)
        forty = constant_lot(APART8, 40)
        self.assertLess(seconds(parts_of, APART8, forty), 1)
        self.assertLess(seconds(fans, null(40), 0), 1)
        for world in (band(9), ring(40), product(BACK, ring(10)), EQUALIZED):
            self.assertLess(seconds(truths, world), 1)
        pair = lot_sum(ring(20), single(ring(20), 0), single(ring(20), 0))
        self.assertLess(seconds(so_part, ring(20), pair, ((),), ((),)), 1)


if __name__ == "__main__":
    unittest.main()
