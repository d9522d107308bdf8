"""[34] to [36]: lots pulled, pushed and gathered along maps."""

import itertools
import random
import unittest

from arrowworlds import errors
from arrowworlds.idles import completed, into_completed
from arrowworlds.lots import are_lot_copies, lot_breach, lot_families, single
from arrowworlds.made import product, sum_of
from arrowworlds.maps import behind, is_faithful, is_full, still_map
from arrowworlds.moved import gathered, pulled, pushed
from arrowworlds.orders import chain_world
from arrowworlds.partners import right_partner
from tests.samples import (APART8, BACK, CHAIN2, CHAIN3, EMPTY, FORK, POINT, SMALL, TWO, band, between_by_words,
                           check_calls, drawn_maps, hand, raised, random_worlds, ring, seconds)
from tests.test_cones import CROSS, SQUARE
from tests.test_lots import FLAT, NO_LOT, constant_lot, drawn_lot, lots_over

FORTY = (errors.TooMany, {"limit": 40})
WORLDS = SMALL + (SQUARE, CROSS) + tuple(random_worlds(340, 10, 9))


def pushed_by_words(one, other, along, lot):
    """The pushed lot, by parting all triples until nothing changes; None if a size is above 40."""
    p, q = along
    triples = [(x, f, k) for x in range(one[0]) for f in range(len(other[1])) if other[1][f][0] == p[x]
               for k in range(lot[0][x])]
    part = {triple: {triple} for triple in triples}
    for g, (x, z) in enumerate(one[1]):
        for f in range(len(other[1])):
            if other[1][f][0] == p[z]:
                for k in range(lot[0][x]):
                    first, second = part[(x, other[2][q[g]][f], k)], part[(z, f, lot[1][g][k])]
                    if first is not second:
                        first |= second
                        for triple in second:
                            part[triple] = first
    rows = [sorted({min(part[t]) for t in triples if other[1][t[1]][1] == y}) for y in range(other[0])]
    if any(len(row) > 40 for row in rows):
        return None
    moves = tuple(tuple(rows[z].index(min(part[(x, other[2][f][h], k)])) for x, f, k in rows[y])
                  for h, (y, z) in enumerate(other[1]))
    return (tuple(len(row) for row in rows), moves)


def gathered_by_words(one, other, along, lot):
    """The gathered lot, by trying out all rows of elements; None if a size is above 40."""
    p, q = along
    pairs = [[(x, f) for x in range(one[0]) for f in between_by_words(other, y, p[x])] for y in range(other[0])]
    rows = []
    for y in range(other[0]):
        place = {pair: k for k, pair in enumerate(pairs[y])}
        rows.append([row for row in itertools.product(*[range(lot[0][x]) for x, _ in pairs[y]])
                     if all(lot[1][g][row[place[(x, f)]]] == row[place[(z, other[2][f][q[g]])]]
                            for g, (x, z) in enumerate(one[1]) for w, f in pairs[y] if w == x)])
    if any(len(row) > 40 for row in rows):
        return None
    moves = []
    for h, (y, z) in enumerate(other[1]):
        place = {pair: k for k, pair in enumerate(pairs[y])}
        moves.append(tuple(rows[z].index(tuple(row[place[(x, other[2][h][f])]] for x, f in pairs[z]))
                           for row in rows[y]))
    return (tuple(len(row) for row in rows), tuple(moves))


def many_choices(one, other, along, lot):
    many = 0
    for y in range(other[0]):
        rows = 1
        for x in range(one[0]):
            rows *= lot[0][x] ** len(between_by_words(other, y, along[0][x]))
        many += rows
    return many


def some_lots(rng, world, many):
    found = lots_over(world)
    return rng.sample(found, min(many, len(found)))


def cases(seed, worlds, many):
    """Maps between worlds, each with a lot over the first world."""
    rng = random.Random(seed)
    for one in worlds:
        for other in rng.sample(worlds, min(8, len(worlds))):
            for along in drawn_maps(rng, one, other, 1):
                for lot in some_lots(rng, one, many):
                    yield one, other, along, lot
    for one in FLAT:
        for other in rng.sample(worlds, 5):
            for along in drawn_maps(rng, one, other, 1):
                yield one, other, along, drawn_lot(rng, one, 3)


def answer(function, *arguments):
    """What a function returns, or None if a size would be above 40."""
    error = raised(function, *arguments)
    if error is not None:
        assert error == FORTY, error
        return None
    return function(*arguments)


class Pulled(unittest.TestCase):

    def test_by_hand(self):
        lot = ((2, 1), ((0, 1), (0,), (0, 0)))
        self.assertEqual(pulled(POINT, CHAIN2, ((0,), (0,)), lot), ((2,), ((0, 1),)))
        self.assertEqual(pulled(POINT, CHAIN2, ((1,), (1,)), lot), ((1,), ((0,),)))
        self.assertEqual(pulled(CHAIN3, CHAIN2, ((0, 0, 1), (0, 0, 1, 0, 2, 2)), lot),
                         ((2, 2, 1), ((0, 1), (0, 1), (0,), (0, 1), (0, 0), (0, 0))))
        self.assertEqual(pulled(TWO, CHAIN2, ((1, 0), (1, 0)), lot), ((1, 2), ((0,), (0, 1))))
        self.assertEqual(pulled(EMPTY, CHAIN2, ((), ()), lot), NO_LOT)
        self.assertEqual(pulled(EMPTY, EMPTY, ((), ()), NO_LOT), NO_LOT)
        self.assertEqual(pulled(POINT, TWO, ((1,), (1,)), ((3, 0), ((0, 1, 2), ()))), ((0,), ((),)))

    def test_by_its_rows(self):
        rng = random.Random(341)
        for one in WORLDS:
            for other in WORLDS:
                for along in drawn_maps(rng, one, other, 1):
                    for lot in some_lots(rng, other, 2):
                        found = pulled(one, other, along, lot)
                        self.assertIsNone(lot_breach(one, found))
                        self.assertEqual(found[0], tuple(lot[0][along[0][x]] for x in range(one[0])))
                        self.assertEqual(found[1], tuple(lot[1][along[1][f]] for f in range(len(one[1]))))


class Pushed(unittest.TestCase):

    def test_by_hand(self):
        # From the beginning of a chain each element is led to one of its own.
        self.assertEqual(pushed(POINT, CHAIN2, ((0,), (0,)), ((2,), ((0, 1),))),
                         ((2, 2), ((0, 1), (0, 1), (0, 1))))
        # Nothing leads from the end of a chain to its beginning.
        self.assertEqual(pushed(POINT, CHAIN2, ((1,), (1,)), ((2,), ((0, 1),))), ((0, 2), ((), (0, 1), ())))
        # Along two arrows there are two for each.
        self.assertEqual(pushed(POINT, FORK, ((0,), (0,)), ((2,), ((0, 1),))),
                         ((2, 4), ((0, 1), (0, 1, 2, 3), (0, 1), (2, 3))))
        # Both things of one lead to one thing: put beside one another.
        self.assertEqual(pushed(TWO, POINT, ((0, 0), (0, 0)), ((2, 1), ((0, 1), (0,)))), ((3,), ((0, 1, 2),)))
        # What an arrow moves is put together.
        self.assertEqual(pushed(CHAIN2, POINT, ((0, 0), (0, 0, 0)), ((2, 2), ((0, 1), (0, 1), (1, 1)))),
                         ((2,), ((0, 1),)))
        self.assertEqual(pushed(ring(2), POINT, ((0,), (0, 0)), ((3,), ((0, 1, 2), (1, 0, 2)))), ((2,), ((0, 1),)))
        self.assertEqual(pushed(POINT, ring(2), ((0,), (0,)), ((1,), ((0,),))), ((2,), ((0, 1), (1, 0))))

    def test_without_things_and_without_elements(self):
        self.assertEqual(pushed(EMPTY, EMPTY, ((), ()), NO_LOT), NO_LOT)
        self.assertEqual(pushed(EMPTY, CHAIN2, ((), ()), NO_LOT), ((0, 0), ((), (), ())))
        self.assertEqual(pushed(CHAIN2, FORK, ((0, 1), (0, 1, 3)), constant_lot(CHAIN2, 0)), ((0, 0), ((),) * 4))
        self.assertEqual(pushed(TWO, CHAIN2, ((0, 1), (0, 1)), ((0, 1), ((), (0,)))), ((0, 1), ((), (0,), ())))

    def test_by_parting_all_triples(self):
        seen = above = 0
        for one, other, along, lot in cases(342, WORLDS, 3):
            expected = pushed_by_words(one, other, along, lot)
            found = answer(pushed, one, other, along, lot)
            self.assertEqual(found, expected)
            if found is None:
                above += 1
            else:
                self.assertIsNone(lot_breach(other, found))
                seen += 1
        self.assertGreater(seen, 300)

    def test_at_most_40(self):
        for size in (1, 40):
            self.assertEqual(pushed(POINT, POINT, ((0,), (0,)), constant_lot(POINT, size)), constant_lot(POINT, size))
        self.assertEqual(pushed(TWO, POINT, ((0, 0), (0, 0)), ((39, 1), (tuple(range(39)), (0,))))[0], (40,))
        self.assertEqual(raised(pushed, TWO, POINT, ((0, 0), (0, 0)), ((39, 2), (tuple(range(39)), (0, 1)))), FORTY)
        self.assertEqual(pushed(POINT, FORK, ((0,), (0,)), constant_lot(POINT, 20))[0], (20, 40))
        self.assertEqual(raised(pushed, POINT, FORK, ((0,), (0,)), constant_lot(POINT, 21)), FORTY)
        # 41 at the last thing alone.
        three = sum_of(POINT, FORK)
        self.assertEqual(raised(pushed, POINT, three, ((1,), (1,)), constant_lot(POINT, 21)), FORTY)
        # 80 triples, of which each two are one.
        self.assertEqual(pushed(CHAIN2, POINT, ((0, 0), (0, 0, 0)), constant_lot(CHAIN2, 40))[0], (40,))


class Gathered(unittest.TestCase):

    def test_by_hand(self):
        # What leads to the end of a chain is asked for at both things.
        self.assertEqual(gathered(POINT, CHAIN2, ((1,), (1,)), ((2,), ((0, 1),))), ((2, 2), ((0, 1), (0, 1), (0, 1))))
        # No arrow leads from the end to the beginning: there is just the empty choice.
        self.assertEqual(gathered(POINT, CHAIN2, ((0,), (0,)), ((2,), ((0, 1),))), ((2, 1), ((0, 1), (0,), (0, 0))))
        self.assertEqual(gathered(POINT, CHAIN2, ((0,), (0,)), ((0,), ((),))), ((0, 1), ((), (0,), ())))
        # Along two arrows all pairs.
        self.assertEqual(gathered(POINT, FORK, ((1,), (1,)), ((2,), ((0, 1),))),
                         ((4, 2), ((0, 1, 2, 3), (0, 1), (0, 0, 1, 1), (0, 1, 0, 1))))
        self.assertEqual(gathered(TWO, POINT, ((0, 0), (0, 0)), ((2, 3), ((0, 1), (0, 1, 2)))),
                         ((6,), ((0, 1, 2, 3, 4, 5),)))
        # What both arrows of a fork move to one.
        self.assertEqual(gathered(FORK, POINT, ((0, 0), (0,) * 4), ((3, 2), ((0, 1, 2), (0, 1), (0, 0, 1), (0, 1, 1)))),
                         ((2,), ((0, 1),)))
        self.assertEqual(gathered(ring(2), POINT, ((0,), (0, 0)), ((3,), ((0, 1, 2), (1, 0, 2)))), ((1,), ((0,),)))
        self.assertEqual(gathered(POINT, ring(2), ((0,), (0,)), ((2,), ((0, 1),))),
                         ((4,), ((0, 1, 2, 3), (0, 2, 1, 3))))

    def test_without_things_and_without_elements(self):
        self.assertEqual(gathered(EMPTY, EMPTY, ((), ()), NO_LOT), NO_LOT)
        self.assertEqual(gathered(EMPTY, CHAIN2, ((), ()), NO_LOT), ((1, 1), ((0,), (0,), (0,))))
        self.assertEqual(gathered(CHAIN2, CHAIN2, still_map(CHAIN2), constant_lot(CHAIN2, 0)), ((0, 0), ((),) * 3))
        self.assertEqual(gathered(POINT, TWO, ((0,), (0,)), ((0,), ((),))), ((0, 1), ((), (0,))))

    def test_by_trying_all_choices(self):
        seen = 0
        for one, other, along, lot in cases(343, WORLDS, 3):
            if many_choices(one, other, along, lot) <= 3000:
                found = answer(gathered, one, other, along, lot)
                self.assertEqual(found, gathered_by_words(one, other, along, lot))
                if found is not None:
                    self.assertIsNone(lot_breach(other, found))
                    seen += 1
        self.assertGreater(seen, 250)

    def test_at_most_40(self):
        self.assertEqual(gathered(POINT, POINT, ((0,), (0,)), constant_lot(POINT, 40)), constant_lot(POINT, 40))
        five_eight = ((5, 8), (tuple(range(5)), tuple(range(8))))
        self.assertEqual(gathered(TWO, POINT, ((0, 0), (0, 0)), five_eight)[0], (40,))
        lot = ((40, 2, 2), (tuple(range(40)), (0, 1), (0, 1), (0,) * 40))
        world = hand(3, [(0, 1)])
        self.assertEqual(gathered(world, TWO, ((0, 0, 1), (0, 0, 1, 0)), lot)[0], (40, 2))
        # 39 elements are moved to 0 and one to 1, where the elements of the last thing are moved, too: 39, 40 and 41.
        lot = ((40, 2, 1), (tuple(range(40)), (0, 1), (0,), (0,) * 39 + (1,), (0,)))
        world = hand(3, [(0, 1), (2, 1)])
        self.assertEqual(gathered(world, POINT, ((0, 0, 0), (0,) * 5), lot)[0], (39,))
        lot = ((40, 2, 2), (tuple(range(40)), (0, 1), (0, 1), (0,) * 39 + (1,), (0, 1)))
        self.assertEqual(gathered(world, POINT, ((0, 0, 0), (0,) * 5), lot)[0], (40,))
        lot = ((40, 2, 3), (tuple(range(40)), (0, 1), (0, 1, 2), (0,) * 39 + (1,), (0, 1, 1)))
        self.assertEqual(raised(gathered, world, POINT, ((0, 0, 0), (0,) * 5), lot), FORTY)
        self.assertEqual(raised(gathered, TWO, POINT, ((0, 0), (0, 0)), ((6, 7), (tuple(range(6)), tuple(range(7))))),
                         FORTY)
        # More than 40 at the first thing, though just one at the last one.
        self.assertEqual(raised(gathered, POINT, FORK, ((1,), (1,)), constant_lot(POINT, 7)), FORTY)
        self.assertEqual(gathered(POINT, FORK, ((1,), (1,)), constant_lot(POINT, 6))[0], (36, 6))


def few_families(world, one, other):
    """How many families lead between the lots, or None if they are more than 1000."""
    error = raised(lot_families, world, one, other)
    return None if error is not None else len(lot_families(world, one, other))


def are_copied(world, one, other):
    """Whether the lots are copies, or None if there are more than 1000 families."""
    return None if raised(are_lot_copies, world, one, other) is not None else are_lot_copies(world, one, other)


class Facts(unittest.TestCase):

    def test_as_many_families_on_both_sides(self):
        rng = random.Random(361)
        seen = [0, 0]
        for one, other, along, lot in cases(360, WORLDS, 2):
            for more in some_lots(rng, other, 3):
                back = pulled(one, other, along, more)
                ahead = answer(pushed, one, other, along, lot)
                if ahead is not None:
                    self.assertEqual(few_families(other, ahead, more), few_families(one, lot, back))
                    seen[0] += 1
                around = answer(gathered, one, other, along, lot)
                if around is not None:
                    self.assertEqual(few_families(one, back, lot), few_families(other, more, around))
                    seen[1] += 1
        self.assertGreater(min(seen), 300)

    def test_a_single_lot_pushed(self):
        rng = random.Random(362)
        seen = 0
        for one in WORLDS:
            for other in WORLDS:
                for along in drawn_maps(rng, one, other, 1):
                    for x in range(one[0]):
                        found = pushed(one, other, along, single(one, x))
                        copied = are_copied(other, found, single(other, along[0][x]))
                        self.assertIn(copied, (True, None))
                        seen += copied is True
        self.assertGreater(seen, 300)

    def test_full_and_faithful_maps(self):
        rng = random.Random(363)
        seen = 0
        for one in WORLDS:
            for other in WORLDS:
                for along in drawn_maps(rng, one, other, 6):
                    if is_full(one, other, along) and is_faithful(one, other, along):
                        for lot in some_lots(rng, one, 2):
                            for function in (pushed, gathered):
                                there = answer(function, one, other, along, lot)
                                if there is not None:
                                    copied = are_copied(one, pulled(one, other, along, there), lot)
                                    self.assertIn(copied, (True, None))
                                    seen += copied is True
        self.assertGreater(seen, 200)

    def test_maps_with_a_right_partner(self):
        rng = random.Random(364)
        seen = 0
        for one in WORLDS:
            for other in WORLDS:
                for along in drawn_maps(rng, one, other, 3):
                    if raised(right_partner, one, other, along) is not None:
                        continue
                    partner = right_partner(one, other, along)
                    if partner is not None:
                        for lot in some_lots(rng, one, 2):
                            found = answer(pushed, one, other, along, lot)
                            copied = are_copied(other, found, pulled(other, one, partner[0], lot))
                            self.assertIn(copied, (True, None))
                            seen += copied is True
                        for lot in some_lots(rng, other, 2):
                            found = answer(gathered, other, one, partner[0], lot)
                            copied = are_copied(one, pulled(one, other, along, lot), found)
                            self.assertIn(copied, (True, None))
                            seen += copied is True
        self.assertGreater(seen, 200)

    def test_maps_behind_one_another(self):
        rng = random.Random(365)
        seen = 0
        for _ in range(150):
            one, other, third = rng.choice(WORLDS), rng.choice(WORLDS), rng.choice(WORLDS)
            for near, far in zip(drawn_maps(rng, one, other, 1), drawn_maps(rng, other, third, 1)):
                both = behind(near, far)
                for lot in some_lots(rng, third, 2):
                    self.assertEqual(pulled(one, third, both, lot),
                                     pulled(one, other, near, pulled(other, third, far, lot)))
                for lot in some_lots(rng, one, 2):
                    for function in (pushed, gathered):
                        middle = answer(function, one, other, near, lot)
                        if middle is not None:
                            twice = answer(function, other, third, far, middle)
                            once = answer(function, one, third, both, lot)
                            self.assertEqual(twice is None, once is None)
                            if once is not None:
                                self.assertIn(are_copied(third, once, twice), (True, None))
                                seen += 1
        self.assertGreater(seen, 100)

    def test_along_into_completed(self):
        rng = random.Random(366)
        seen = 0
        for world in WORLDS:
            if raised(completed, world) is None:
                more, along = completed(world), into_completed(world)
                for lot in some_lots(rng, world, 3):
                    for function in (pushed, gathered):
                        there = function(world, more, along, lot)
                        self.assertIn(are_copied(world, pulled(world, more, along, there), lot), (True, None))
                        seen += 1
                for lot in some_lots(rng, more, 3):
                    back = pulled(world, more, along, lot)
                    for function in (pushed, gathered):
                        self.assertIn(are_copied(more, function(world, more, along, back), lot), (True, None))
                        seen += 1
        self.assertGreater(seen, 200)


class Calls(unittest.TestCase):

    def test_calls(self):
        along = ((0, 0, 1), (0, 0, 1, 0, 2, 2))
        lot = ((2, 1), ((0, 1), (0,), (0, 0)))
        more = ((1, 2, 2), ((0,), (0, 1), (0, 1), (1,), (0,), (0, 0)))
        self.assertIsNone(lot_breach(CHAIN3, more))
        check_calls(self, pulled, {"one": CHAIN3, "other": CHAIN2, "along": along, "lot": lot})
        check_calls(self, pushed, {"one": CHAIN3, "other": CHAIN2, "along": along, "lot": more})
        check_calls(self, gathered, {"one": CHAIN3, "other": CHAIN2, "along": along, "lot": more})

    def test_how_long_it_takes(self):
        small = random_worlds(367, 20, 14)
        rng = random.Random(368)
        for one, other in zip(small, small[1:] + small[:1]):
            for along in drawn_maps(rng, one, other, 1):
                for lot in lots_over(one)[:4]:
                    for function in (pushed, gathered):
                        self.assertLess(seconds(function, one, other, along, lot), 0.1)
        self.check_great(ring(40), ring(40), still_map(ring(40)), constant_lot(ring(40), 40))
        self.check_great(ring(40), ring(40), still_map(ring(40)), single(ring(40), 0))
        self.check_great(ring(40), POINT, ((0,), (0,) * 40), single(ring(40), 0))
        self.check_great(APART8, ring(40), ((0,) * 8, (0,) * 8), constant_lot(APART8, 40))
        self.check_great(APART8, band(40), ((0,) * 8, (0,) * 8), constant_lot(APART8, 2))
        self.check_great(chain_world(8), chain_world(8), still_map(chain_world(8)), constant_lot(chain_world(8), 40))
        wide = hand(2, [(0, 1)] * 38)
        self.check_great(wide, wide, still_map(wide), constant_lot(wide, 40))
        self.check_great(product(BACK, ring(10)), product(BACK, ring(10)), still_map(product(BACK, ring(10))),
                         constant_lot(product(BACK, ring(10)), 40))

    def check_great(self, one, other, along, lot):
        for function in (pushed, gathered):
            self.assertLess(seconds(function, one, other, along, lot), 1)
        self.assertLess(seconds(pulled, one, one, still_map(one), lot), 1)


if __name__ == "__main__":
    unittest.main()
