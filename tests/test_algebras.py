"""[46]: the worlds of free algebras and of all algebras of a monad."""

import unittest

from arrowworlds import errors
from arrowworlds.alikes import are_alike
from arrowworlds.algebras import all_algebras, all_sides, compared, free_algebras, free_sides
from arrowworlds.arrows import back_of
from arrowworlds.made import part_of, product, sum_of
from arrowworlds.maps import behind, map_breach, still_map
from arrowworlds.monads import monad_breach, monad_of, monads_over
from arrowworlds.orders import chain_world
from arrowworlds.partners import partnerships
from arrowworlds.reflections import reflecting_parts
from arrowworlds.worlds import world_breach
from tests.samples import (APART8, BACK, CHAIN2, CHAIN3, EMPTY, POINT, SMALL, SPLIT, between_by_words, check_calls,
                           hand, named_world, raised, random_worlds, ring, seconds)
from tests.test_cones import CROSS, SQUARE
from tests.test_monads import TO_END, all_monads, all_partnerships

FORTY = (errors.TooMany, {"limit": 40})
WORLDS = SMALL + (SQUARE, CROSS, sum_of(BACK, CHAIN3), product(BACK, CHAIN2)) + tuple(random_worlds(460, 16, 9))


def free_by_words(world, monad):
    """The world of free algebras, by its names, and its arrows in their sequence."""
    (p, q), u, m = monad
    table = world[2]
    things = [(x,) for x in range(world[0])]
    arrows = [((x,), (y,), (f,)) for x in range(world[0]) for y in range(world[0])
              for f in between_by_words(world, x, p[y])]
    stills = [((x,), (x,), (u[x],)) for x in range(world[0])]
    # The name of both hangs on where the second arrow leads to, so the names are told with it.
    listed = stills + sorted(arrow for arrow in arrows if arrow not in stills)
    rows = []
    for x, y, f in listed:
        rows.append(tuple(listed.index((x, w, (table[table[f[0]][q[g[0]]]][m[w[0]]],))) if y == z else -1
                          for z, w, g in listed))
    return (len(things), tuple((x[0], y[0]) for x, y, _ in listed), tuple(rows)), listed


def algebras_by_words(world, monad):
    (p, q), u, m = monad
    table = world[2]
    return [(x, a) for x in range(world[0]) for a in between_by_words(world, p[x], x)
            if table[u[x]][a] < world[0] and table[q[a]][a] == table[m[x]][a]]


def all_by_words(world, monad):
    """The world of all algebras, by its names, and its arrows in their sequence."""
    (p, q), _, m = monad
    table = world[2]
    things = algebras_by_words(world, monad)
    stills = [(name, name, (name[0],)) for name in things]
    arrows = [(one, other, (f,)) for one in things for other in things
              for f in between_by_words(world, one[0], other[0]) if table[q[f]][other[1]] == table[one[1]][f]]
    made = named_world(things, stills, arrows, lambda f, g: (table[f[0]][g[0]],))
    others = sorted((things.index(one), things.index(other), name) for one, other, name in arrows
                    if (one, other, name) not in stills)
    return made, stills + [(things[a], things[b], name) for a, b, name in others]


def as_many(world, made, x, y):
    return len(between_by_words(made, x, y))


class Free(unittest.TestCase):

    def test_by_hand(self):
        # All arrows lead to the end of the chain, from both things: both are the same.
        self.assertEqual(free_algebras(CHAIN2, TO_END), BACK)
        self.assertEqual(free_sides(CHAIN2, TO_END), (((0, 1), (0, 1, 2)), ((1, 1), (1, 1, 1, 1))))
        still = (still_map(CHAIN3), (0, 1, 2), (0, 1, 2))
        self.assertEqual(free_algebras(CHAIN3, still), CHAIN3)
        self.assertEqual(free_sides(CHAIN3, still), (still_map(CHAIN3), still_map(CHAIN3)))
        # In a ring with the unit 1 the still arrow is 1, and f and then g is f + g - 1.
        turning = (still_map(ring(3)), (1,), (2,))
        self.assertEqual(free_algebras(ring(3), turning), (1, ((0, 0),) * 3, ((0, 1, 2), (1, 2, 0), (2, 0, 1))))
        self.assertEqual(free_sides(ring(3), turning), (((0,), (0, 2, 1)), ((0,), (0, 2, 1))))
        self.assertEqual(free_algebras(EMPTY, (((), ()), (), ())), EMPTY)
        self.assertEqual(free_sides(EMPTY, (((), ()), (), ())), (((), ()), ((), ())))

    def test_by_its_names(self):
        for world, monad in all_monads(461, WORLDS, 30):
            expected, _ = free_by_words(world, monad)
            if len(expected[1]) > 40:
                self.assertEqual(raised(free_algebras, world, monad), FORTY)
            else:
                self.assertEqual(free_algebras(world, monad), expected)
                self.assertIsNone(world_breach(expected))

    def test_sides(self):
        for world, monad in all_monads(462, WORLDS, 30):
            (p, q), u, m = monad
            made, listed = free_by_words(world, monad)
            there, back = free_sides(world, monad)
            self.assertIsNone(map_breach(world, made, there))
            self.assertIsNone(map_breach(made, world, back))
            self.assertEqual((there[0], back[0]), (still_map(world)[0], p))
            for f, (x, y) in enumerate(world[1]):
                self.assertEqual(listed[there[1][f]], ((x,), (y,), (world[2][f][u[y]],)))
            for k, (_, y, f) in enumerate(listed):
                self.assertEqual(back[1][k], world[2][q[f[0]]][m[y[0]]])

    def test_the_sides_make_the_monad(self):
        seen = 0
        for world, monad in all_monads(463, WORLDS, 30):
            if raised(free_algebras, world, monad) is None:
                made, sides = free_algebras(world, monad), free_sides(world, monad)
                self.assertIn(monad, made_monads(world, made, sides))
                seen += 1
        self.assertGreater(seen, 60)

    def test_too_many_arrows(self):
        # Eight things that are all led to one: 64 arrows.
        chain = chain_world(8)
        along = ((7,) * 8, (7,) * 36)
        monad = monads_over(chain, along)[0]
        self.assertEqual(raised(free_algebras, chain, monad), FORTY)
        self.assertEqual(raised(free_sides, chain, monad), FORTY)
        self.assertIsNone(raised(all_algebras, chain, monad))
        six = chain_world(6)
        monad = monads_over(six, ((5,) * 6, (5,) * 21))[0]
        self.assertEqual(len(free_algebras(six, monad)[1]), 36)
        # 36 arrows and four, and 36 and five.
        for more, many in ((ring(4), 40), (ring(5), None)):
            world = sum_of(six, more)
            n = len(more[1])
            along = ((5,) * 6 + (6,), (5,) * 6 + (6,) + (5,) * 15 + tuple(range(22, 21 + n)))
            self.assertIsNone(map_breach(world, world, along))
            monad = monads_over(world, along)[0]
            if many is None:
                self.assertEqual(raised(free_algebras, world, monad), FORTY)
                self.assertEqual(raised(free_sides, world, monad), FORTY)
            else:
                self.assertEqual(len(free_algebras(world, monad)[1]), 40)
                self.assertIsNone(raised(free_sides, world, monad))


def made_monads(one, other, sides):
    """The monads of all partnerships of both maps."""
    there, back = sides
    return [monad_of(one, other, there, back, unit, counit) for unit, counit in partnerships(one, other, there, back)]


class All(unittest.TestCase):

    def test_by_hand(self):
        # Just the end of the chain has an algebra.
        self.assertEqual(all_algebras(CHAIN2, TO_END), POINT)
        self.assertEqual(all_sides(CHAIN2, TO_END), (((0, 0), (0, 0, 0)), ((1,), (1,))))
        still = (still_map(CHAIN3), (0, 1, 2), (0, 1, 2))
        self.assertEqual(all_algebras(CHAIN3, still), CHAIN3)
        self.assertEqual(all_sides(CHAIN3, still), (still_map(CHAIN3), still_map(CHAIN3)))
        turning = (still_map(ring(3)), (1,), (2,))
        self.assertEqual(all_algebras(ring(3), turning), ring(3))
        self.assertEqual(all_algebras(EMPTY, (((), ()), (), ())), EMPTY)
        self.assertEqual(all_sides(EMPTY, (((), ()), (), ())), (((), ()), ((), ())))

    def test_by_its_names(self):
        for world, monad in all_monads(464, WORLDS, 30):
            expected, _ = all_by_words(world, monad)
            self.assertEqual(all_algebras(world, monad), expected)

    def test_sides(self):
        for world, monad in all_monads(465, WORLDS, 30):
            (p, q), _, m = monad
            made, listed = all_by_words(world, monad)
            things = algebras_by_words(world, monad)
            there, back = all_sides(world, monad)
            self.assertIsNone(map_breach(world, made, there))
            self.assertIsNone(map_breach(made, world, back))
            self.assertEqual([things[k] for k in there[0]], [(p[x], m[x]) for x in range(world[0])])
            self.assertEqual([listed[k][2] for k in there[1]], [(f,) for f in q])
            self.assertEqual(back, (tuple(x for x, _ in things), tuple(f for _, _, (f,) in listed)))
            self.assertEqual(behind(there, back), monad[0])

    def test_the_sides_make_the_monad(self):
        for world, monad in all_monads(466, WORLDS, 30):
            made, sides = all_algebras(world, monad), all_sides(world, monad)
            self.assertIn(monad, made_monads(world, made, sides))

    def test_the_part_of_the_things_whose_unit_is_turnable(self):
        seen = 0
        for world, monad in all_monads(467, WORLDS, 30):
            things = tuple(x for x in range(world[0]) if back_of(world, monad[1][x]) is not None)
            self.assertEqual(tuple(x for x, _ in algebras_by_words(world, monad)), things)
            self.assertEqual(all_algebras(world, monad), part_of(world, things))
            self.assertIn(things, reflecting_parts(world))
            seen += len(things) < world[0]
        self.assertGreater(seen, 15)

    def test_as_many_arrows(self):
        for world, monad in all_monads(468, WORLDS, 30):
            if raised(free_algebras, world, monad) is None:
                free, every = free_algebras(world, monad), all_algebras(world, monad)
                there = all_sides(world, monad)[0][0]
                for x in range(world[0]):
                    for y in range(world[0]):
                        self.assertEqual(as_many(world, free, x, y), as_many(world, every, there[x], there[y]))


class Compared(unittest.TestCase):

    def test_by_hand(self):
        first, second = ((0, 0), (0, 0, 0)), ((1,), (1,))
        self.assertEqual(compared(CHAIN2, POINT, first, second, (2, 1), (0,)), ((0,), (0,)))
        self.assertEqual(compared(EMPTY, EMPTY, ((), ()), ((), ()), (), ()), ((), ()))

    def test_by_the_words(self):
        seen = 0
        for told in all_partnerships(469, WORLDS, 2):
            self.check(*told)
            seen += 1
        self.assertGreater(seen, 80)

    def check(self, one, other, first, second, unit, counit):
        monad = monad_of(one, other, first, second, unit, counit)
        self.assertIsNone(monad_breach(one, monad))
        made, listed = all_by_words(one, monad)
        things = algebras_by_words(one, monad)
        found = compared(one, other, first, second, unit, counit)
        self.assertIsNone(map_breach(other, made, found))
        names = [(second[0][y], second[1][counit[y]]) for y in range(other[0])]
        self.assertEqual([things[k] for k in found[0]], names)
        self.assertEqual([listed[k] for k in found[1]],
                         [(names[y], names[z], (second[1][h],)) for h, (y, z) in enumerate(other[1])])
        # Going to all algebras and back is going back at once, and going there from one is going by other.
        there, back = all_sides(one, monad)
        self.assertEqual(behind(found, back), second)
        self.assertEqual(behind(first, found), there)

    def test_for_both_sides(self):
        for world, monad in all_monads(470, WORLDS, 20):
            every = all_algebras(world, monad)
            for make, sides in ((free_algebras, free_sides), (all_algebras, all_sides)):
                if raised(make, world, monad) is None:
                    made, (there, back) = make(world, monad), sides(world, monad)
                    for unit, counit in partnerships(world, made, there, back):
                        if monad_of(world, made, there, back, unit, counit) == monad:
                            found = compared(world, made, there, back, unit, counit)
                            self.assertIsNone(map_breach(made, every, found))
                            if make == all_algebras:
                                self.assertEqual(found, still_map(every))
                            else:
                                # All algebras are free up to what is the same.
                                self.assertTrue(are_alike(made, every))


class Calls(unittest.TestCase):

    def test_calls(self):
        for function in (free_algebras, all_algebras, free_sides, all_sides):
            check_calls(self, function, {"world": CHAIN2, "monad": TO_END})
        check_calls(self, compared, {"one": CHAIN2, "other": POINT, "first": ((0, 0), (0, 0, 0)),
                                     "second": ((1,), (1,)), "unit": (2, 1), "counit": (0,)})

    def test_how_long_it_takes(self):
        for world, monad in all_monads(471, random_worlds(472, 16, 14), 2):
            self.check_all(world, monad, 0.1)
        for world in (ring(40), product(BACK, ring(10)), chain_world(8), hand(2, [(0, 1)] * 38), APART8,
                      sum_of(ring(20), ring(20)), SPLIT):
            self.check_all(world, monads_over(world, still_map(world))[-1], 1)
        chain = chain_world(8)
        self.check_all(chain, monads_over(chain, ((7,) * 8, (7,) * 36))[0], 1)

    def check_all(self, world, monad, limit):
        for function in (free_algebras, all_algebras, free_sides, all_sides):
            self.assertLess(seconds(function, world, monad), limit)
        if raised(free_sides, world, monad) is None:
            made, (there, back) = free_algebras(world, monad), free_sides(world, monad)
            counit = tuple(next(k for k, (_, y, f) in enumerate(free_by_words(world, monad)[1])
                                if y == (x,) and f == (monad[0][0][x],) and made[1][k][0] == monad[0][0][x])
                           for x in range(world[0]))
            self.assertLess(seconds(compared, world, made, there, back, monad[1], counit), limit)


if __name__ == "__main__":
    unittest.main()
