"""[30] to [32]: lots, families between them, and the worlds of their elements."""

import itertools
import random
import unittest

from arrowworlds import errors
from arrowworlds.alikes import same_parts
from arrowworlds.lots import (are_lot_copies, element_map, element_world, family_of, lot_breach, lot_families,
                              lot_product, lot_sum, single)
from arrowworlds.maps import map_breach
from arrowworlds.worlds import world_breach
from tests.samples import (APART8, BACK, CHAIN2, CHAIN3, EMPTY, EQUALIZED, FORK, IDLE, POINT, SMALL, SPLIT, TWO,
                           WRONG_VALUES, band, between_by_words, check_calls, hand, named_world, null, raised,
                           random_worlds, ring, seconds, with_others)
from tests.test_cones import CROSS, SQUARE

THOUSAND = (errors.TooMany, {"limit": 1000})
EIGHT = (errors.TooMany, {"limit": 8})
FORTY = (errors.TooMany, {"limit": 40})
WORLDS = SMALL + (SQUARE, CROSS) + tuple(random_worlds(170, 12, 10))
NO_LOT = ((), ())


def constant_lot(world, size):
    """The lot with so many elements at each thing that no arrow changes."""
    return ((size,) * world[0], (tuple(range(size)),) * len(world[1]))


def lots_over(world):
    """Some lots over the world, made without the package."""
    found = [constant_lot(world, size) for size in range(3)]
    for x in range(world[0]):
        rows = [between_by_words(world, x, y) for y in range(world[0])]
        moves = [tuple(rows[z].index(world[2][f][g]) for f in rows[y]) for g, (y, z) in enumerate(world[1])]
        found.append((tuple(len(row) for row in rows), tuple(moves)))
        # Of a single lot all elements of the things that x leads to, put together to one.
        found.append((tuple(min(1, len(row)) for row in rows),
                      tuple((0,) * min(1, len(rows[y])) for y, _ in world[1])))
    return found


def drawn_lot(rng, world, most):
    """A lot over a world whose arrows that are not still never follow one another."""
    sizes = [rng.randrange(most + 1) for _ in range(world[0])]
    for x, y in world[1]:
        if sizes[x] > 0 and sizes[y] == 0:
            sizes[y] = 1
    moves = [tuple(rng.randrange(sizes[y]) for _ in range(sizes[x])) for x, y in world[1][world[0]:]]
    return (tuple(sizes), tuple(tuple(range(size)) for size in sizes) + tuple(moves))


FLAT = (TWO, CHAIN2, FORK, CROSS, hand(4, [(0, 1), (2, 1), (2, 3)]), hand(3, [(0, 1), (0, 1), (2, 1)]),
        hand(4, [(0, 1), (0, 2), (0, 3)]))


def families_of_lots(world, one, other):
    """All families, by trying out all rows of elements."""
    choices = [list(itertools.product(range(other[0][x]), repeat=one[0][x])) for x in range(world[0])]
    return [a for a in itertools.product(*choices)
            if all(other[1][f][a[x][k]] == a[y][one[1][f][k]]
                   for f, (x, y) in enumerate(world[1]) for k in range(one[0][x]))]


def many_rows(world, one, other):
    many = 1
    for x in range(world[0]):
        many *= other[0][x] ** one[0][x]
    return many


class Breaches(unittest.TestCase):

    def check(self, world, value, word):
        self.assertEqual(lot_breach(world, value), word, value)

    def test_lots(self):
        self.check(EMPTY, ((), ()), None)
        self.check(POINT, ((0,), ((),)), None)
        self.check(POINT, ((3,), ((0, 1, 2),)), None)
        self.check(CHAIN2, ((2, 1), ((0, 1), (0,), (0, 0))), None)
        self.check(CHAIN2, ((0, 1), ((), (0,), ())), None)
        self.check(CHAIN2, ((1, 2), ((0,), (0, 1), (1,))), None)
        self.check(ring(2), ((3,), ((0, 1, 2), (1, 0, 2))), None)
        self.check(IDLE, ((3,), ((0, 1, 2), (1, 1, 2))), None)
        self.check(CHAIN3, ((1, 2, 2), ((0,), (0, 1), (0, 1), (1,), (0,), (1, 0))), None)
        for world in WORLDS:
            for lot in lots_over(world):
                self.check(world, lot, None)
        self.check(TWO, ((40, 40), (tuple(range(40)),) * 2), None)

    def test_each_word_alone(self):
        self.check(CHAIN2, ((2, 1), ((0, 1), (0,), (0, 1))), "form")
        self.check(CHAIN2, ((1, 0), ((0,), (), (0,))), "form")
        self.check(CHAIN2, ((2, 1), ((1, 0), (0,), (0, 0))), "still")
        self.check(POINT, ((2,), ((0, 0),)), "still")
        self.check(ring(2), ((2,), ((0, 1), (0, 0))), "then")
        self.check(ring(2), ((2,), ((0, 1), (1, 1))), "then")
        self.check(IDLE, ((2,), ((0, 1), (1, 0))), "then")
        self.check(CHAIN3, ((1, 2, 2), ((0,), (0, 1), (0, 1), (1,), (1,), (1, 0))), "then")
        self.check(ring(3), ((3,), ((0, 1, 2), (1, 2, 0), (1, 2, 0))), "then")

    def test_the_sequence_of_moves(self):
        # In a band what goes first stays, so a lot is carried the other way than over the turned one.
        self.check(band(3), ((2,), ((0, 1), (0, 0), (0, 0))), None)
        self.check(band(3), single(band(3), 0), None)
        # 1.2 is 1, so moving to 0 and then to 1 is not moving to 0.
        self.check(band(3), ((2,), ((0, 1), (0, 0), (1, 1))), "then")
        turned_band = ((1, ((0, 0),) * 3, ((0, 1, 2), (1, 1, 2), (2, 1, 2))))
        self.check(turned_band, ((2,), ((0, 1), (0, 0), (1, 1))), None)

    def test_several_at_once(self):
        self.check(ring(2), ((2,), ((1, 0), (0, 0))), "still")
        self.check(ring(2), ((2,), ((1, 0), (0, 2))), "form")
        self.check(ring(2), ((2,), ((0, 1), (0, 2))), "form")
        self.check(CHAIN2, ((2, 41), ((1, 0), tuple(range(41)), (0, 0))), "form")

    def test_values_of_other_kinds(self):
        good = ((2, 1), ((0, 1), (0,), (0, 0)))
        self.check(CHAIN2, good, None)
        for value in with_others(good):
            if repr(value) != repr(good):
                self.assertIn(lot_breach(CHAIN2, value), ("form", "still"))
        for value in WRONG_VALUES:
            self.check(CHAIN2, value, "form")
            self.check(EMPTY, value, "form")
            self.check(CHAIN2, (value, good[1]), "form")
            self.check(CHAIN2, (good[0], value), "form")
        for size in (True, False, None, "1", -1, 41, 1.0, [1], 10 ** 30):
            self.check(CHAIN2, ((2, size), ((0, 1), (0,), (0, 0))), "form")
        self.check(CHAIN2, ((0, True), ((), (0,), ())), "form")
        self.check(POINT, ((2,), ((0, True),)), "form")
        self.check(POINT, ((-1,), ((),)), "form")
        self.check(POINT, ((40,), (tuple(range(40)),)), None)
        self.check(POINT, ((41,), (tuple(range(41)),)), "form")
        self.check(CHAIN2, ((2, 1), ((0, 1), (0,))), "form")
        self.check(CHAIN2, ((2, 1), ((0, 1), (0,), (0, 0), (0, 0))), "form")
        self.check(CHAIN2, ((2, 1, 1), ((0, 1), (0,), (0, 0))), "form")


class Singles(unittest.TestCase):

    def test_by_hand(self):
        self.assertEqual(single(POINT, 0), ((1,), ((0,),)))
        self.assertEqual(single(CHAIN3, 1), ((0, 1, 1), ((), (0,), (0,), (), (), (0,))))
        self.assertEqual(single(FORK, 0), ((1, 2), ((0,), (0, 1), (0,), (1,))))
        self.assertEqual(single(FORK, 1), ((0, 1), ((), (0,), (), ())))
        self.assertEqual(single(ring(3), 0), ((3,), ((0, 1, 2), (1, 2, 0), (2, 0, 1))))
        self.assertEqual(single(SPLIT, 0), ((2, 1), ((0, 1), (0,), (1, 1), (0, 0), (1,))))
        # 0, 1, 2 and then 1: 1, 1, 2.
        self.assertEqual(single(band(3), 0), ((3,), ((0, 1, 2), (1, 1, 2), (2, 1, 2))))

    def test_by_words(self):
        for world in WORLDS:
            for x in range(world[0]):
                lot = single(world, x)
                self.assertIsNone(lot_breach(world, lot))
                self.assertEqual(lot, lots_over(world)[3 + 2 * x])


class Families(unittest.TestCase):

    def test_by_hand(self):
        chain = ((2, 1), ((0, 1), (0,), (0, 0)))
        self.assertEqual(lot_families(CHAIN2, chain, chain),
                         (((0, 0), (0,)), ((0, 1), (0,)), ((1, 0), (0,)), ((1, 1), (0,))))
        other = ((2, 2), ((0, 1), (0, 1), (0, 1)))
        self.assertEqual(lot_families(CHAIN2, chain, other), (((0, 0), (0,)), ((1, 1), (1,))))
        self.assertEqual(len(lot_families(CHAIN2, other, chain)), 4)
        self.assertEqual(lot_families(EMPTY, NO_LOT, NO_LOT), ((),))
        self.assertEqual(lot_families(POINT, ((0,), ((),)), ((0,), ((),))), (((),),))
        self.assertEqual(lot_families(POINT, ((1,), ((0,),)), ((0,), ((),))), ())
        self.assertEqual(lot_families(POINT, ((0,), ((),)), ((2,), ((0, 1),))), (((),),))
        # A ring of two acts on three elements by exchanging two of them: from a single one to each.
        swap = ((3,), ((0, 1, 2), (1, 0, 2)))
        self.assertEqual(lot_families(ring(2), single(ring(2), 0), swap), (((0, 1),), ((1, 0),), ((2, 2),)))
        self.assertEqual(len(lot_families(ring(2), swap, swap)), 3)

    def test_by_trying_all_rows(self):
        found = {0: 0, 1: 0, 2: 0}
        for world in WORLDS:
            some = lots_over(world)
            for one in some:
                for other in some:
                    if many_rows(world, one, other) <= 3000:
                        found[self.check(world, one, other)] += 1
        rng = random.Random(171)
        for world in FLAT:
            for _ in range(60):
                one, other = drawn_lot(rng, world, 3), drawn_lot(rng, world, 4)
                if many_rows(world, one, other) <= 30000:
                    found[self.check(world, one, other)] += 1
        self.assertGreater(min(found.values()), 50)

    def check(self, world, one, other):
        expected = families_of_lots(world, one, other)
        if len(expected) > 1000:
            self.assertEqual(raised(lot_families, world, one, other), THOUSAND)
            self.assertEqual(raised(are_lot_copies, world, one, other), THOUSAND)
            return 2
        self.assertEqual(lot_families(world, one, other), tuple(expected))
        copies = any(all(sorted(row) == list(range(size)) for row, size in zip(a, other[0])) for a in expected)
        self.assertIs(are_lot_copies(world, one, other), copies)
        return min(len(expected), 2)

    def test_at_most_a_thousand(self):
        points = [constant_lot(POINT, size) for size in range(41)]
        found = lot_families(POINT, points[3], points[10])
        self.assertEqual(len(found), 1000)
        self.assertEqual(list(found), sorted(set(found)))
        self.assertEqual(raised(lot_families, POINT, points[3], points[11]), THOUSAND)
        self.assertEqual(raised(lot_families, POINT, points[2], points[32]), THOUSAND)
        self.assertEqual(len(lot_families(POINT, points[2], points[31])), 961)
        self.assertEqual(len(lot_families(POINT, points[1], points[40])), 40)
        self.assertEqual(raised(lot_families, POINT, points[40], points[2]), THOUSAND)
        self.assertEqual(len(lot_families(POINT, points[40], points[1])), 1)
        # 7 times 11 times 13 families.
        rows = hand(3, [])
        self.assertEqual(raised(lot_families, rows, ((1, 1, 1), ((0,),) * 3),
                                ((7, 11, 13), tuple(tuple(range(k)) for k in (7, 11, 13)))), THOUSAND)

    def test_too_many_here_and_none_there(self):
        two = ((40, 1), (tuple(range(40)), (0,)))
        none = ((40, 0), (tuple(range(40)), ()))
        self.assertEqual(lot_families(TWO, two, none), ())
        self.assertIs(are_lot_copies(TWO, two, none), False)

    def test_what_narrows_late(self):
        # Elements in a row, each two of them led to one: all of one are told by the first one.
        world = hand(2, [(0, 1), (0, 1)])
        row = ((20, 21), (tuple(range(20)), tuple(range(21)), tuple(range(20)), tuple(range(1, 21))))
        other = ((40, 40), (tuple(range(40)), tuple(range(40)), tuple(range(40)), tuple((k + 1) % 40 for k in range(40))))
        self.assertEqual(len(lot_families(world, row, other)), 40)
        half = ((40, 20), (tuple(range(40)), tuple(range(20)), tuple(k // 2 for k in range(40)),
                           tuple((k * 7 + 3) % 40 // 2 for k in range(40))))
        self.assertLess(seconds(lot_families, world, row, half), 1)
        self.assertLess(seconds(lot_families, world, half, row), 1)
        self.assertLess(seconds(lot_families, world, half, half), 1)
        closed = ((20, 20), (tuple(range(20)), tuple(range(20)), tuple(range(20)), tuple((k + 1) % 20 for k in range(20))))
        self.assertEqual(len(lot_families(world, closed, other)), 0)
        self.assertEqual(len(lot_families(world, closed, closed)), 20)

    def test_edges_and_points(self):
        # Edges at seven things lead to their two points at the last one: families to all unlike pairs are colourings.
        world = hand(8, [(k, 7) for k in range(7) for _ in range(2)])
        pairs = [(a, b) for a in range(4) for b in range(4) if a != b]
        colours = self.edge_lot([pairs] * 7, 4)
        ring_of_five = [(k, (k + 1) % 5) for k in range(5)]
        self.assertEqual(len(lot_families(world, self.edge_lot([ring_of_five[k:k + 1] for k in range(7)], 5), colours)),
                         3 ** 5 - 3)
        four = [(a, b) for a in range(4) for b in range(a)]
        self.assertEqual(len(lot_families(world, self.edge_lot([four] + [[]] * 6, 4), colours)), 24)
        five = [(a, b) for a in range(5) for b in range(a)]
        self.assertEqual(lot_families(world, self.edge_lot([five] + [[]] * 6, 5), colours), ())
        rng = random.Random(174)
        for many in (140, 150, 160, 170):
            edges = rng.sample([(a, b) for a in range(40) for b in range(a)], many)
            lot = self.edge_lot([edges[k::7] for k in range(7)], 40)
            self.assertIsNone(lot_breach(world, lot))
            self.assertLess(seconds(lot_families, world, lot, colours), 3)

    def edge_lot(self, rows, points):
        """A lot over the world of seven things with two arrows each to the last one, told by its edges."""
        sizes = tuple(len(row) for row in rows) + (points,)
        ends = tuple(tuple(edge[side] for edge in row) for row in rows for side in range(2))
        return (sizes, tuple(tuple(range(size)) for size in sizes) + ends)

    def test_family_of(self):
        self.assertEqual(family_of(FORK, ((1, 2), ((0,), (0, 1), (1,), (0,))), 0, 0), ((0,), (1, 0)))
        self.assertEqual(family_of(FORK, ((1, 2), ((0,), (0, 1), (1,), (0,))), 1, 1), ((), (1,)))
        for world in WORLDS:
            for lot in lots_over(world):
                for x in range(world[0]):
                    every = [family_of(world, lot, x, k) for k in range(lot[0][x])]
                    self.assertEqual(len(set(every)), len(every))
                    if lot[0][x] > 0:
                        self.assertEqual(lot_families(world, single(world, x), lot), tuple(sorted(every)))
                    else:
                        self.assertEqual(lot_families(world, single(world, x), lot), ())


class Copies(unittest.TestCase):

    def test_by_hand(self):
        swap = ((3,), ((0, 1, 2), (1, 0, 2)))
        self.assertIs(are_lot_copies(ring(2), swap, ((3,), ((0, 1, 2), (0, 2, 1)))), True)
        self.assertIs(are_lot_copies(ring(2), swap, constant_lot(ring(2), 3)), False)
        self.assertIs(are_lot_copies(ring(2), swap, constant_lot(ring(2), 2)), False)
        self.assertIs(are_lot_copies(EMPTY, NO_LOT, NO_LOT), True)
        self.assertIs(are_lot_copies(POINT, ((0,), ((),)), ((0,), ((),))), True)
        self.assertIs(are_lot_copies(POINT, ((0,), ((),)), ((1,), ((0,),))), False)
        self.assertIs(are_lot_copies(POINT, ((1,), ((0,),)), ((0,), ((),))), False)

    def test_errors_of_the_families_from_the_first_to_the_second(self):
        few, many = constant_lot(POINT, 2), constant_lot(POINT, 40)
        self.assertEqual(raised(are_lot_copies, POINT, few, many), THOUSAND)
        self.assertEqual(raised(are_lot_copies, POINT, many, few), THOUSAND)
        self.assertIs(are_lot_copies(POINT, constant_lot(POINT, 1), many), False)
        self.assertIs(are_lot_copies(POINT, many, constant_lot(POINT, 1)), False)
        self.assertEqual(raised(are_lot_copies, POINT, constant_lot(POINT, 5), constant_lot(POINT, 5)), THOUSAND)
        self.assertIs(are_lot_copies(POINT, constant_lot(POINT, 4), constant_lot(POINT, 4)), True)
        # From 9 to 2 elements 512 families lead, back 81; from 10 to 2 there are 1024, back 100.
        self.assertIs(are_lot_copies(POINT, constant_lot(POINT, 9), few), False)
        self.assertEqual(raised(are_lot_copies, POINT, constant_lot(POINT, 10), few), THOUSAND)
        self.assertIs(are_lot_copies(POINT, few, constant_lot(POINT, 10)), False)

    def test_single_ones_of_things_that_are_the_same(self):
        for world in WORLDS:
            for x in range(world[0]):
                for y in range(world[0]):
                    same = any(x in part and y in part for part in same_parts(world))
                    self.assertIs(are_lot_copies(world, single(world, x), single(world, y)), same)


def element_names(world, lot):
    things = [(x, k) for x in range(world[0]) for k in range(lot[0][x])]
    return things, [((x, k), (y, lot[1][f][k]), (f,)) for f, (x, y) in enumerate(world[1]) for k in range(lot[0][x])]


class Elements(unittest.TestCase):

    def test_by_hand(self):
        chain = ((2, 1), ((0, 1), (0,), (0, 0)))
        self.assertEqual(element_world(CHAIN2, chain), hand(3, [(0, 2), (1, 2)]))
        self.assertEqual(element_map(CHAIN2, chain), ((0, 0, 1), (0, 0, 1, 2, 2)))
        self.assertEqual(element_world(EMPTY, NO_LOT), EMPTY)
        self.assertEqual(element_map(EMPTY, NO_LOT), ((), ()))
        self.assertEqual(element_world(SPLIT, ((0, 0), ((),) * 5)), EMPTY)
        self.assertEqual(element_map(SPLIT, ((0, 0), ((),) * 5)), ((), ()))
        swap = ((3,), ((0, 1, 2), (1, 0, 2)))
        self.assertEqual(element_world(ring(2), swap), hand(3, [(0, 1), (1, 0), (2, 2)], {(3, 4): 0, (4, 3): 1, (5, 5): 2}))
        self.assertEqual(element_map(ring(2), swap), ((0, 0, 0), (0, 0, 0, 1, 1, 1)))
        # A single lot of one of two things that are the same makes both the same again.
        self.assertEqual(element_world(BACK, single(BACK, 0)), BACK)
        for world in SMALL:
            if world[0] > 0:
                self.assertEqual(element_world(world, constant_lot(world, 1))[0], world[0])

    def test_by_names(self):
        found = {"world": 0, 8: 0, 40: 0}
        for world in WORLDS + (hand(2, [(0, 1)] * 7), null(9), ring(7), band(8)):
            for lot in lots_over(world) + [constant_lot(world, 5)]:
                things, arrows = element_names(world, lot)
                error = EIGHT if len(things) > 8 else FORTY if len(arrows) > 40 else None
                self.assertEqual(raised(element_world, world, lot), error)
                self.assertEqual(raised(element_map, world, lot), error)
                found["world" if error is None else error[1]["limit"]] += 1
                if error is None:
                    made, along = element_world(world, lot), element_map(world, lot)
                    expected = named_world(things, [(a, a, (a[0],)) for a in things], arrows,
                                           lambda f, g: (world[2][f[0]][g[0]],))
                    self.assertEqual(made, expected)
                    self.assertIsNone(world_breach(made))
                    self.assertIsNone(map_breach(made, world, along))
                    self.assertEqual(along[0], tuple(x for x, _ in things))
                    self.check_arrows(made, arrows, along)
        self.assertGreater(min(found.values()), 2)

    def check_arrows(self, made, arrows, along):
        # Each arrow goes to the one by which it moves: from an element just one for each.
        places = {a: k for k, a in enumerate(sorted({a for a, _, _ in arrows}))}
        told = sorted((places[a], places[b], f) for a, b, (f,) in arrows)
        self.assertEqual(sorted((x, y, along[1][k]) for k, (x, y) in enumerate(made[1])), told)

    def test_too_many(self):
        self.assertEqual(element_world(POINT, constant_lot(POINT, 8)), APART8)
        self.assertEqual(len(element_world(ring(5), constant_lot(ring(5), 8))[1]), 40)
        for function in (element_world, element_map):
            self.assertEqual(raised(function, POINT, constant_lot(POINT, 9)), EIGHT)
            self.assertEqual(raised(function, ring(6), constant_lot(ring(6), 7)), FORTY)
            self.assertEqual(raised(function, ring(6), constant_lot(ring(6), 9)), EIGHT)
            self.assertEqual(raised(function, APART8, constant_lot(APART8, 40)), EIGHT)
            self.assertIsNone(raised(function, ring(40), constant_lot(ring(40), 1)))
            self.assertEqual(raised(function, ring(40), single(ring(40), 0)), EIGHT)

    def test_families_led_along(self):
        # Each family from a lot is told by an element for each element, led along by the arrows of its world.
        for world in FLAT:
            for one in lots_over(world):
                if raised(element_world, world, one) is None:
                    for other in lots_over(world):
                        self.assertEqual(len(lot_families(world, one, other)), self.led(world, one, other))

    def led(self, world, one, other):
        along, made = element_map(world, one), element_world(world, one)
        rows = itertools.product(*[range(other[0][x]) for x in along[0]])
        return len([row for row in rows
                    if all(other[1][along[1][f]][row[a]] == row[b] for f, (a, b) in enumerate(made[1]))])


class SumsAndProducts(unittest.TestCase):

    def test_by_hand(self):
        one = ((2, 1), ((0, 1), (0,), (0, 0)))
        other = ((1, 3), ((0,), (0, 1, 2), (2,)))
        self.assertEqual(lot_sum(CHAIN2, one, other), ((3, 4), ((0, 1, 2), (0, 1, 2, 3), (0, 0, 3))))
        self.assertEqual(lot_sum(CHAIN2, other, one), ((3, 4), ((0, 1, 2), (0, 1, 2, 3), (2, 3, 3))))
        self.assertEqual(lot_product(CHAIN2, one, other), ((2, 3), ((0, 1), (0, 1, 2), (2, 2))))
        self.assertEqual(lot_product(CHAIN2, other, other), ((1, 9), ((0,), tuple(range(9)), (8,))))
        swap, two = ((3,), ((0, 1, 2), (1, 0, 2))), ((2,), ((0, 1), (1, 0)))
        self.assertEqual(lot_product(ring(2), swap, two), ((6,), ((0, 1, 2, 3, 4, 5), (3, 2, 1, 0, 5, 4))))
        self.assertEqual(lot_product(ring(2), two, swap), ((6,), ((0, 1, 2, 3, 4, 5), (4, 3, 5, 1, 0, 2))))
        self.assertEqual(lot_sum(ring(2), swap, two), ((5,), ((0, 1, 2, 3, 4), (1, 0, 2, 4, 3))))
        self.assertEqual(lot_sum(EMPTY, NO_LOT, NO_LOT), NO_LOT)
        self.assertEqual(lot_product(EMPTY, NO_LOT, NO_LOT), NO_LOT)
        none = ((0, 0), ((), (), ()))
        self.assertEqual(lot_sum(CHAIN2, one, none), one)
        self.assertEqual(lot_sum(CHAIN2, none, one), one)
        self.assertEqual(lot_product(CHAIN2, one, none), none)
        self.assertEqual(lot_product(CHAIN2, none, one), none)

    def test_as_many_families(self):
        seen = 0
        for world in WORLDS[:12]:
            some = [lot for lot in lots_over(world) if sum(lot[0]) <= 4]
            for one in some:
                for two in some:
                    both, pair = lot_sum(world, one, two), lot_product(world, one, two)
                    self.assertIsNone(lot_breach(world, both))
                    self.assertIsNone(lot_breach(world, pair))
                    for other in some:
                        if raised(lot_families, world, both, other) is None:
                            self.assertEqual(len(lot_families(world, both, other)), len(lot_families(world, one, other))
                                             * len(lot_families(world, two, other)))
                            seen += 1
                        if raised(lot_families, world, other, pair) is None:
                            self.assertEqual(len(lot_families(world, other, pair)), len(lot_families(world, other, one))
                                             * len(lot_families(world, other, two)))
        self.assertGreater(seen, 200)

    def test_sizes(self):
        lots = [constant_lot(POINT, size) for size in range(41)]
        self.assertEqual(lot_sum(POINT, lots[15], lots[25]), lots[40])
        self.assertEqual(raised(lot_sum, POINT, lots[16], lots[25]), FORTY)
        self.assertEqual(raised(lot_sum, POINT, lots[40], lots[1]), FORTY)
        self.assertEqual(lot_sum(POINT, lots[40], lots[0]), lots[40])
        self.assertEqual(lot_product(POINT, lots[5], lots[8]), lots[40])
        self.assertEqual(lot_product(POINT, lots[40], lots[1]), lots[40])
        self.assertEqual(lot_product(POINT, lots[40], lots[0]), lots[0])
        self.assertEqual(raised(lot_product, POINT, lots[6], lots[7]), FORTY)
        self.assertEqual(raised(lot_product, POINT, lots[2], lots[21]), FORTY)
        # At the last one of the things alone.
        one, two = ((1, 20), ((0,), tuple(range(20)))), ((1, 21), ((0,), tuple(range(21))))
        self.assertEqual(raised(lot_sum, TWO, one, two), FORTY)
        self.assertEqual(raised(lot_product, TWO, one, two), FORTY)
        self.assertEqual(lot_sum(TWO, one, one)[0], (2, 40))


class Calls(unittest.TestCase):

    def test_calls(self):
        one, other = ((2, 1), ((0, 1), (0,), (0, 0))), ((1, 3), ((0,), (0, 1, 2), (2,)))
        check_calls(self, lot_breach, {"world": CHAIN2, "value": one})
        check_calls(self, lot_breach, {"world": CHAIN2, "value": [one, {}]})
        check_calls(self, single, {"world": SPLIT, "x": 0})
        check_calls(self, family_of, {"world": CHAIN2, "lot": other, "x": 1, "k": 2})
        for function in (lot_families, are_lot_copies, lot_sum, lot_product):
            check_calls(self, function, {"world": CHAIN2, "one": one, "other": other})
        for function in (element_world, element_map):
            check_calls(self, function, {"world": CHAIN2, "lot": other})

    def test_how_long_it_takes(self):
        for world in random_worlds(172, 12, 14):
            for lot in lots_over(world):
                self.assertLess(seconds(lot_families, world, lot, lot), 0.1)
                self.assertLess(seconds(element_world, world, lot), 0.1)
        ten = constant_lot(APART8, 10)
        three = ((1, 1, 1, 0, 0, 0, 0, 0), ((0,),) * 3 + ((),) * 5)
        self.assertEqual(len(lot_families(APART8, three, ten)), 1000)
        self.assertLess(seconds(lot_families, APART8, three, ten), 1)
        forty = constant_lot(APART8, 40)
        self.assertLess(seconds(lot_families, APART8, forty, forty), 1)
        self.assertLess(seconds(lot_families, ring(40), single(ring(40), 0), single(ring(40), 0)), 1)
        many = hand(8, [(k, 7) for k in range(4)] * 8)
        rng = random.Random(173)
        for _ in range(5):
            one, other = drawn_lot(rng, many, 40), drawn_lot(rng, many, 40)
            self.assertLess(seconds(lot_families, many, one, other), 1)
            self.assertLess(seconds(are_lot_copies, many, one, one), 1)
        self.assertLess(seconds(lot_families, EQUALIZED, constant_lot(EQUALIZED, 9), constant_lot(EQUALIZED, 9)), 1)


if __name__ == "__main__":
    unittest.main()
