"""[26] to [28]: what stands beneath a thing, partners, and partnerships."""

import random
import unittest

from arrowworlds import errors
from arrowworlds.alikes import alikeness
from arrowworlds.arrows import back_of
from arrowworlds.commas import comma
from arrowworlds.cones import does_keep
from arrowworlds.families import families, is_family, then_families
from arrowworlds.joins import are_copies
from arrowworlds.made import product, sum_of
from arrowworlds.maps import behind, is_faithful, is_full, map_breach, maps_between, still_map
from arrowworlds.orders import chain_world
from arrowworlds.partners import (beneath, is_partnership, lacking, left_lacking, left_partner, partnerships,
                                  right_partner)
from arrowworlds.worlds import between, turned, world_breach
from tests.samples import (APART8, BACK, CHAIN2, CHAIN3, EMPTY, EQUALIZED, FORK, IDLE, POINT, SMALL, SPLIT, TWO,
                           WRONG_VALUES, band, between_by_words, check_calls, drawn_maps, families_by_words, hand,
                           is_family_by_words, named_world, null, raised, random_worlds, ring, seconds,
                           turnable_by_words, with_others)
from tests.test_alikes import doubled

EIGHT = (errors.TooMany, {"limit": 8})
FORTY = (errors.TooMany, {"limit": 40})
THOUSAND = (errors.TooMany, {"limit": 1000})
NOTHING = ((), ())
WORLDS = SMALL + tuple(random_worlds(140, 14, 9))


def beneath_names(one, other, along, y):
    things = sorted((x, f) for x in range(one[0]) for f in between_by_words(other, along[0][x], y))
    arrows = [(a, b, (g,)) for a in things for b in things for g in between_by_words(one, a[0], b[0])
              if other[2][along[1][g]][b[1]] == a[1]]
    return things, arrows


def beneath_by_names(one, other, along, y):
    things, arrows = beneath_names(one, other, along, y)
    if len(things) > 8:
        return EIGHT
    if len(arrows) > 40:
        return FORTY
    return named_world(things, [(a, a, (a[0],)) for a in things], arrows, lambda f, g: (one[2][f[0]][g[0]],))


def ends_by_words(one, other, along, y):
    """The ends beneath y by their names, ascending."""
    things, arrows = beneath_names(one, other, along, y)
    return [b for b in things if all(len([1 for c, d, _ in arrows if (c, d) == (a, b)]) == 1 for a in things)]


def refusal(one, other, along):
    """The error of the first world beneath that cannot be made, or None."""
    for y in range(other[0]):
        if beneath_by_names(one, other, along, y) in (EIGHT, FORTY):
            return beneath_by_names(one, other, along, y)
    return None


def partner_by_words(one, other, along):
    every = [ends_by_words(one, other, along, y) for y in range(other[0])]
    if not all(every):
        return None
    things, counit = tuple(ends[0][0] for ends in every), tuple(ends[0][1] for ends in every)
    arrows = []
    for h, (y, z) in enumerate(other[1]):
        led = [g for g in between_by_words(one, things[y], things[z])
               if other[2][along[1][g]][counit[z]] == other[2][counit[y]][h]]
        assert len(led) == 1
        arrows.append(led[0])
    return ((things, tuple(arrows)), counit)


def lacking_by_words(one, other, along):
    return next((y for y in range(other[0]) if not ends_by_words(one, other, along, y)), None)


def is_partnership_by_words(one, other, first, second, value):
    u, e = value
    trip, back = behind(first, second), behind(second, first)
    if any(one[1][u[x]] != (x, trip[0][x]) for x in range(one[0])):
        return False
    if any(other[1][e[y]] != (back[0][y], y) for y in range(other[0])):
        return False
    if not is_family_by_words(one, one, still_map(one), trip, u):
        return False
    if not is_family_by_words(other, other, back, still_map(other), e):
        return False
    ours = all(other[2][first[1][u[x]]][e[first[0][x]]] == first[0][x] for x in range(one[0]))
    return ours and all(one[2][u[second[0][y]]][second[1][e[y]]] == second[0][y] for y in range(other[0]))


def partnerships_by_words(one, other, first, second):
    units = families_by_words(one, one, still_map(one), behind(first, second))
    counits = families_by_words(other, other, behind(second, first), still_map(other))
    return tuple((u, e) for u in units for e in counits if is_partnership_by_words(one, other, first, second, (u, e)))


def drawn(seed, worlds, many):
    rng = random.Random(seed)
    return [(one, other, along) for one in worlds for other in worlds for along in drawn_maps(rng, one, other, many)]


class Beneath(unittest.TestCase):

    def test_by_hand(self):
        # Beneath the thing 1 of a chain of three, from its lower two things: (0, 3) and (1, 1).
        low = ((0, 1), (0, 1, 3))
        self.assertEqual(beneath(CHAIN2, CHAIN3, low, 0), POINT)
        self.assertEqual(beneath(CHAIN2, CHAIN3, low, 1), CHAIN2)
        self.assertEqual(beneath(CHAIN2, CHAIN3, low, 2), CHAIN2)
        high = ((1, 2), (1, 2, 5))
        self.assertEqual(beneath(CHAIN2, CHAIN3, high, 0), EMPTY)
        self.assertEqual(beneath(POINT, FORK, ((0,), (0,)), 1), TWO)
        self.assertEqual(beneath(EMPTY, FORK, NOTHING, 1), EMPTY)
        # (0, 0) and (0, 1): 1 then 1 is 1, 1 then 0 is 1 and 0 then 1 is 1.
        self.assertEqual(beneath(IDLE, IDLE, still_map(IDLE), 0), hand(2, [(1, 0), (1, 1)], {(3, 2): 2, (3, 3): 3}))
        self.assertEqual(beneath(FORK, CHAIN2, ((0, 1), (0, 1, 2, 2)), 1), FORK)

    def test_by_names(self):
        found = {"world": 0, 8: 0, 40: 0}
        worlds = WORLDS + (ring(7), ring(9), null(7), band(7))
        for one, other, along in drawn(141, worlds, 1):
            for y in range(other[0]):
                expected = beneath_by_names(one, other, along, y)
                error = raised(beneath, one, other, along, y)
                found[expected[1]["limit"] if expected in (EIGHT, FORTY) else "world"] += 1
                if expected in (EIGHT, FORTY):
                    self.assertEqual(error, expected)
                    self.assertEqual(raised(comma, one, POINT, other, along, ((y,), (y,))), expected)
                else:
                    made = beneath(one, other, along, y)
                    self.assertEqual(made, expected)
                    self.assertIsNone(world_breach(made))
                    self.assertTrue(are_copies(made, comma(one, POINT, other, along, ((y,), (y,)))))
        self.assertGreater(min(found.values()), 10)

    def test_too_many(self):
        still = still_map(ring(9))
        self.assertEqual(raised(beneath, ring(9), ring(9), still, 0), EIGHT)
        self.assertEqual(raised(beneath, ring(40), ring(40), still_map(ring(40)), 0), EIGHT)
        self.assertIsNone(raised(beneath, ring(6), ring(6), still_map(ring(6)), 0))
        self.assertEqual(raised(beneath, ring(7), ring(7), still_map(ring(7)), 0), FORTY)
        self.assertEqual(raised(beneath, hand(5, []), product(POINT, ring(2)), ((0,) * 5, (0,) * 5), 0), EIGHT)
        self.assertEqual(beneath(hand(4, []), ring(2), ((0,) * 4, (0,) * 4), 0), APART8)
        self.assertEqual(len(beneath(ring(40), POINT, ((0,), (0,) * 40), 0)[1]), 40)
        self.assertEqual(raised(beneath, ring(21), hand(2, [(0, 1), (0, 1)]), ((0,), (0,) * 21), 1), FORTY)


class Partners(unittest.TestCase):

    def test_by_hand(self):
        # The lower two of three things: the greatest one that is not above.
        low = ((0, 1), (0, 1, 3))
        self.assertEqual(right_partner(CHAIN2, CHAIN3, low), (((0, 1, 1), (0, 1, 1, 2, 2, 1)), (0, 1, 5)))
        self.assertIsNone(lacking(CHAIN2, CHAIN3, low))
        self.assertIsNone(left_partner(CHAIN2, CHAIN3, low))
        self.assertEqual(left_lacking(CHAIN2, CHAIN3, low), 2)
        # The upper two: the least one that is not beneath.
        high = ((1, 2), (1, 2, 5))
        self.assertIsNone(right_partner(CHAIN2, CHAIN3, high))
        self.assertEqual(lacking(CHAIN2, CHAIN3, high), 0)
        self.assertEqual(left_partner(CHAIN2, CHAIN3, high), (((0, 0, 1), (0, 0, 1, 0, 2, 2)), (3, 1, 2)))
        self.assertIsNone(left_lacking(CHAIN2, CHAIN3, high))
        # To one thing: an end, and a beginning.
        flat = ((0, 0, 0), (0,) * 6)
        self.assertEqual(right_partner(CHAIN3, POINT, flat), (((2,), (2,)), (0,)))
        self.assertEqual(left_partner(CHAIN3, POINT, flat), (((0,), (0,)), (0,)))
        self.assertEqual(lacking(TWO, POINT, ((0, 0), (0, 0))), 0)
        self.assertEqual(left_lacking(TWO, POINT, ((0, 0), (0, 0))), 0)
        # The least of the ends.
        self.assertEqual(right_partner(BACK, POINT, ((0, 0), (0,) * 4)), (((0,), (0,)), (0,)))
        self.assertEqual(right_partner(POINT, BACK, ((1,), (1,))), (((0, 0), (0, 0, 0, 0)), (3, 1)))
        self.assertEqual(right_partner(ring(3), ring(3), still_map(ring(3))), (still_map(ring(3)), (0,)))

    def test_the_empty_world(self):
        self.assertEqual(right_partner(EMPTY, EMPTY, NOTHING), (NOTHING, ()))
        self.assertEqual(left_partner(EMPTY, EMPTY, NOTHING), (NOTHING, ()))
        self.assertIsNone(lacking(EMPTY, EMPTY, NOTHING))
        self.assertIsNone(right_partner(EMPTY, TWO, NOTHING))
        self.assertEqual(lacking(EMPTY, TWO, NOTHING), 0)
        self.assertEqual(left_lacking(EMPTY, TWO, NOTHING), 0)

    def test_by_words(self):
        found = {True: 0, False: 0}
        for one, other, along in drawn(142, WORLDS, 3):
            self.check(one, other, along, right_partner, lacking, found)
            back = (turned(one), turned(other), along)
            if refusal(*back) is None:
                self.assertEqual(left_partner(one, other, along), partner_by_words(*back))
                self.assertEqual(left_lacking(one, other, along), lacking_by_words(*back))
            else:
                self.assertEqual(raised(left_partner, one, other, along), refusal(*back))
                self.assertEqual(raised(left_lacking, one, other, along), refusal(*back))
        self.assertGreater(min(found.values()), 50)

    def check(self, one, other, along, function, lack, found):
        error = refusal(one, other, along)
        if error is not None:
            self.assertEqual(raised(function, one, other, along), error)
            self.assertEqual(raised(lack, one, other, along), error)
            return
        expected = partner_by_words(one, other, along)
        self.assertEqual(function(one, other, along), expected)
        self.assertEqual(lack(one, other, along), lacking_by_words(one, other, along))
        found[expected is not None] += 1
        if expected is not None:
            there, counit = expected
            self.assertIsNone(map_breach(other, one, there))
            self.assertTrue(is_family(other, other, behind(there, along), still_map(other), counit))

    def test_the_first_world_that_cannot_be_made(self):
        # Beneath 0 there is no end, beneath 1 there are nine things.
        many = hand(2, [(0, 1)] * 9)
        one = TWO
        along = ((0, 0), (0, 0))
        self.assertEqual(ends_by_words(one, many, along, 0), [])
        for function in (right_partner, lacking):
            self.assertEqual(raised(function, one, many, along), EIGHT)
        for function in (left_partner, left_lacking):
            self.assertEqual(raised(function, one, turned(many), along), EIGHT)
        # Ahead of it one with too many arrows, and behind it.
        seven = sum_of(ring(7), hand(2, [(0, 1)] * 9))
        for function in (right_partner, lacking):
            self.assertEqual(raised(function, sum_of(ring(7), POINT), seven,
                                    ((0, 1), (0, 1) + tuple(range(3, 9)))), FORTY)
        seven = sum_of(hand(2, [(0, 1)] * 9), ring(7))
        for function in (right_partner, lacking):
            self.assertEqual(raised(function, sum_of(POINT, ring(7)), seven,
                                    ((0, 2), (0, 2) + tuple(range(12, 18)))), EIGHT)
        for function in (left_partner, left_lacking):
            self.assertEqual(raised(function, ring(7), ring(7), still_map(ring(7))), FORTY)

    def test_partners_behind_one_another(self):
        seen = 0
        rng = random.Random(143)
        some = (POINT, CHAIN2, CHAIN3, BACK, SPLIT, ring(2), product(CHAIN2, CHAIN2))
        for one in some:
            for other in some:
                for third in some:
                    for f in drawn_maps(rng, one, other, 2):
                        for h in drawn_maps(rng, other, third, 2):
                            seen += self.check_behind(one, other, third, f, h)
        self.assertGreater(seen, 30)

    def check_behind(self, one, other, third, f, h):
        both = behind(f, h)
        if any(refusal(*args) for args in ((one, other, f), (other, third, h), (one, third, both))):
            return 0
        first, second = right_partner(one, other, f), right_partner(other, third, h)
        if first is None or second is None:
            return 0
        whole = right_partner(one, third, both)
        g, k = first[0], second[0]
        # behind(k, g) is a right partner, too: by this counit.
        counit = tuple(third[2][h[1][first[1][k[0][z]]]][second[1][z]] for z in range(third[0]))
        found = [pair for pair in partnerships(one, third, both, behind(k, g)) if pair[1] == counit]
        self.assertEqual(len(found), 1)
        # Just one family leads from the one to the other along with both counits, and all of it turns back.
        led = [a for a in families(third, one, behind(k, g), whole[0])
               if all(third[2][both[1][a[z]]][whole[1][z]] == counit[z] for z in range(third[0]))]
        self.assertEqual(len(led), 1)
        self.assertTrue(all(back_of(one, f) is not None for f in led[0]))
        return 1

    def test_of_an_alikeness(self):
        for one, other in ((BACK, POINT), (doubled(IDLE, 2), IDLE), (doubled(CHAIN2, 2), CHAIN2), (SPLIT, SPLIT)):
            there = alikeness(one, other)[0]
            self.assertIsNotNone(right_partner(one, other, there))
            self.assertIsNotNone(left_partner(one, other, there))

    def test_partners_keep_what_is_best(self):
        seen = 0
        rng = random.Random(144)
        for one, other, along in drawn(145, WORLDS, 2):
            for shape in (EMPTY, TWO, FORK):
                for drawing in drawn_maps(rng, shape, one, 1):
                    if refusal(one, other, along) is None and right_partner(one, other, along) is not None:
                        self.assertTrue(does_keep(turned(one), turned(other), along, turned(shape), drawing))
                        seen += 1
                    back = (turned(one), turned(other), along)
                    if refusal(*back) is None and left_partner(one, other, along) is not None:
                        self.assertTrue(does_keep(one, other, along, shape, drawing))
                        seen += 1
        self.assertGreater(seen, 50)


class Partnerships(unittest.TestCase):

    def test_by_hand(self):
        low, back = ((0, 1), (0, 1, 3)), ((0, 1, 1), (0, 1, 1, 2, 2, 1))
        self.assertEqual(partnerships(CHAIN2, CHAIN3, low, back), (((0, 1), (0, 1, 5)),))
        self.assertEqual(partnerships(CHAIN3, CHAIN2, back, low), ())
        self.assertEqual(partnerships(EMPTY, EMPTY, NOTHING, NOTHING), (((), ()),))
        still = still_map(ring(4))
        self.assertEqual(partnerships(ring(4), ring(4), still, still), tuple(((k,), (-k % 4,)) for k in range(4)))
        still = still_map(band(3))
        self.assertEqual(partnerships(band(3), band(3), still, still), (((0,), (0,)),))

    def test_by_trying_all_pairs(self):
        found = {0: 0, 1: 0, 2: 0}
        rng = random.Random(146)
        worlds = WORLDS + (product(CHAIN2, ring(2)), sum_of(ring(2), ring(3)))
        for one in worlds:
            for other in worlds:
                for first in drawn_maps(rng, one, other, 2):
                    for second in drawn_maps(rng, other, one, 2):
                        expected = partnerships_by_words(one, other, first, second)
                        self.assertEqual(partnerships(one, other, first, second), expected)
                        found[min(len(expected), 2)] += 1
                        self.check_facts(one, other, first, second, expected)
        self.assertGreater(min(found[0], found[1]), 30)
        self.assertGreater(found[2], 1)

    def check_facts(self, one, other, first, second, expected):
        self.assertEqual(len({u for u, _ in expected}), len(expected))
        self.assertEqual(len({e for _, e in expected}), len(expected))
        for u, e in expected[:1]:
            for x in range(one[0]):
                for y in range(other[0]):
                    self.assertEqual(len(between(other, first[0][x], y)), len(between(one, x, second[0][y])))
            ours, theirs = turnable_by_words(one), turnable_by_words(other)
            self.assertEqual(is_full(one, other, first) and is_faithful(one, other, first), all(f in ours for f in u))
            self.assertEqual(is_full(other, one, second) and is_faithful(other, one, second),
                             all(f in theirs for f in e))
            self.assertTrue(all(first[1][f] in theirs for f in u) and all(second[1][f] in ours for f in e))
            self.assertTrue(all(e[y] in theirs for y in first[0]) and all(u[x] in ours for x in second[0]))

    def test_there_is_one_exactly_if_the_right_partner_is_led_to_the_map(self):
        found = {True: 0, False: 0}
        rng = random.Random(147)
        for one, other, along in drawn(148, WORLDS, 2):
            if refusal(one, other, along) is None:
                partner = right_partner(one, other, along)
                if partner is not None:
                    pairs = partnerships(one, other, along, partner[0])
                    self.assertIn(partner[1], [e for _, e in pairs])
                for second in drawn_maps(rng, other, one, 2):
                    led = partner is not None and any(all(f in turnable_by_words(one) for f in a)
                                                      for a in families(other, one, partner[0], second))
                    self.assertEqual(len(partnerships(one, other, along, second)) > 0, led)
                    found[led] += 1
        self.assertGreater(min(found.values()), 30)

    def test_all_of_a_ring(self):
        # Any two partnerships of the same maps go on from one another by a family that turns back.
        still = still_map(ring(5))
        pairs = partnerships(ring(5), ring(5), still, still)
        for u, e in pairs:
            self.assertEqual(then_families(ring(5), u, e), (0,))

    def test_at_most_a_thousand(self):
        three = sum_of(ring(10), sum_of(ring(10), ring(10)))
        still = still_map(three)
        found = partnerships(three, three, still, still)
        self.assertEqual(len(found), 1000)
        self.assertEqual(list(found), sorted(set(found)))
        for pair in found[::97]:
            self.assertTrue(is_partnership_by_words(three, three, still, still, pair))
        more = sum_of(ring(7), sum_of(ring(11), ring(13)))
        self.assertEqual(raised(partnerships, more, more, still_map(more), still_map(more)), THOUSAND)
        loop = null(40)
        self.assertEqual(partnerships(loop, loop, still_map(loop), still_map(loop)), (((0,), (0,)),))

    def test_too_many_units_that_are_in_none(self):
        # The map that takes all arrows of a null but the still one to 1 goes along with each but that one.
        for many, error in ((11, None), (12, THOUSAND)):
            nulls = sum_of(null(many), sum_of(null(many), null(many)))
            still = still_map(nulls)
            ones = tuple(nulls[1].index((x, x), 3) for x in range(3))
            back = ((0, 1, 2), (0, 1, 2) + tuple(ones[x] for x, _ in nulls[1][3:]))
            self.assertIsNone(map_breach(nulls, nulls, back))
            self.assertEqual(raised(partnerships, nulls, nulls, still, back), error)
        nulls = sum_of(null(11), sum_of(null(11), null(11)))
        back = ((0, 1, 2), (0, 1, 2) + (3,) * 10 + (13,) * 10 + (23,) * 10)
        self.assertEqual(len(families(nulls, nulls, still_map(nulls), back)), 1000)
        self.assertEqual(partnerships(nulls, nulls, still_map(nulls), back), ())


class IsPartnership(unittest.TestCase):

    def check(self, arguments, value, expected):
        self.assertIs(is_partnership(*arguments, value), expected, value)

    def test_bent_at_each_entry(self):
        bent = 0
        for one, other in ((CHAIN2, CHAIN3), (CHAIN3, CHAIN2), (BACK, POINT), (SPLIT, SPLIT), (ring(4), ring(4)),
                           (POINT, EQUALIZED), (doubled(IDLE, 2), IDLE), (product(CHAIN2, ring(2)), ring(2))):
            for first in maps_between(one, other)[:8]:
                for second in maps_between(other, one)[:8]:
                    for u, e in partnerships(one, other, first, second)[:2]:
                        bent += self.check_bent((one, other, first, second), u, e)
        self.assertGreater(bent, 100)

    def check_bent(self, arguments, u, e):
        one, other = arguments[:2]
        self.check(arguments, (u, e), True)
        bent = 0
        for k in range(len(u)):
            for f in range(len(one[1])):
                value = (u[:k] + (f,) + u[k + 1:], e)
                self.check(arguments, value, is_partnership_by_words(*arguments, value))
                bent += f != u[k]
            self.check(arguments, (u[:k] + u[k + 1:], e), False)
            self.check(arguments, (u[:k] + u[k:k + 1] + u[k:], e), False)
        for k in range(len(e)):
            for f in range(len(other[1])):
                value = (u, e[:k] + (f,) + e[k + 1:])
                self.check(arguments, value, is_partnership_by_words(*arguments, value))
                bent += f != e[k]
            self.check(arguments, (u, e[:k] + e[k + 1:]), False)
        for value in ((u,), (e,), (u, u, e), (u, e, e), (u, e, u), [u, e]):
            self.check(arguments, value, False)
        return bent

    def test_exchanged(self):
        low, back = ((0, 1), (0, 1, 3)), ((0, 1, 1), (0, 1, 1, 2, 2, 1))
        arguments = (CHAIN2, CHAIN3, low, back)
        self.check(arguments, ((0, 1), (0, 1, 5)), True)
        self.check(arguments, ((0, 1, 5), (0, 1)), False)
        self.check((CHAIN3, CHAIN2, back, low), ((0, 1, 5), (0, 1)), False)
        self.check((CHAIN3, CHAIN2, back, low), ((0, 1), (0, 1, 5)), False)

    def test_all_pairs_of_families(self):
        found = {True: 0, False: 0}
        rng = random.Random(151)
        for one in WORLDS:
            for other in WORLDS:
                for first in drawn_maps(rng, one, other, 1):
                    for second in drawn_maps(rng, other, one, 1):
                        arguments = (one, other, first, second)
                        units = families_by_words(one, one, still_map(one), behind(first, second))
                        counits = families_by_words(other, other, behind(second, first), still_map(other))
                        for u in units[:5]:
                            for e in counits[-5:]:
                                expected = is_partnership_by_words(*arguments, (u, e))
                                self.check(arguments, (u, e), expected)
                                found[expected] += 1
        self.assertGreater(min(found.values()), 20)

    def test_the_second_side_alone_is_not_still(self):
        # All arrows of the idle world and then 1 are 1; so (1,) leads to the map over the point, where all is still.
        there, back = ((0,), (0, 0)), ((0,), (0,))
        self.check((IDLE, POINT, there, back), ((1,), (0,)), False)
        self.assertEqual(families(IDLE, IDLE, still_map(IDLE), behind(there, back)), ((1,),))
        self.assertEqual(partnerships(IDLE, POINT, there, back), ())
        # And back: the first side alone is not still.
        self.check((POINT, IDLE, back, there), ((0,), (1,)), False)
        self.assertEqual(partnerships(POINT, IDLE, back, there), ())

    def test_just_one_of_both_sides(self):
        # In an idle world of which 1 is a loop with 1.1 = 1, the pair of families makes no still arrows.
        still = still_map(IDLE)
        self.check((IDLE, IDLE, still, still), ((0,), (0,)), True)
        self.check((IDLE, IDLE, still, still), ((1,), (0,)), False)
        self.check((IDLE, IDLE, still, still), ((0,), (1,)), False)
        self.check((IDLE, IDLE, still, still), ((1,), (1,)), False)
        # Between a point and the split world the one side is still, but not the other one.
        there, back = ((0,), (0,)), ((0, 0), (0,) * 5)
        found = [(u, e) for u in families_by_words(POINT, POINT, still_map(POINT), behind(there, back))
                 for e in families_by_words(SPLIT, SPLIT, behind(back, there), still_map(SPLIT))]
        for value in found:
            self.check((POINT, SPLIT, there, back), value, is_partnership_by_words(POINT, SPLIT, there, back, value))

    def test_values_of_other_kinds(self):
        low, back = ((0, 1), (0, 1, 3)), ((0, 1, 1), (0, 1, 1, 2, 2, 1))
        still = still_map(TWO)
        cases = (((CHAIN2, CHAIN3, low, back), ((0, 1), (0, 1, 5))), ((TWO, TWO, still, still), ((0, 1), (0, 1))),
                 ((EMPTY, EMPTY, NOTHING, NOTHING), ((), ())))
        for arguments, good in cases:
            self.check(arguments, good, True)
            for value in with_others(good):
                if repr(value) != repr(good):
                    self.check(arguments, value, False)
            for value in WRONG_VALUES:
                self.check(arguments, value, False)


class Calls(unittest.TestCase):

    def test_calls(self):
        low, back = ((0, 1), (0, 1, 3)), ((0, 1, 1), (0, 1, 1, 2, 2, 1))
        case = {"one": CHAIN2, "other": CHAIN3, "along": low}
        check_calls(self, beneath, {**case, "y": 1})
        for function in (right_partner, lacking, left_partner, left_lacking):
            check_calls(self, function, case)
        case = {"one": CHAIN2, "other": CHAIN3, "first": low, "second": back}
        check_calls(self, partnerships, case)
        check_calls(self, is_partnership, {**case, "value": ((0, 1), (0, 1, 5))})
        check_calls(self, is_partnership, {**case, "value": [{}, ()]})

    def test_how_long_it_takes(self):
        for one, other, along in drawn(149, random_worlds(150, 8, 14), 1):
            for function in (right_partner, lacking, left_partner, left_lacking):
                self.assertLess(seconds(function, one, other, along), 0.2)
        eight = chain_world(8)
        for function in (right_partner, lacking, left_partner, left_lacking):
            self.assertLess(seconds(function, eight, eight, still_map(eight)), 1)
        self.assertLess(seconds(partnerships, eight, eight, still_map(eight), still_map(eight)), 1)
        three = sum_of(ring(10), sum_of(ring(10), ring(10)))
        self.assertLess(seconds(partnerships, three, three, still_map(three), still_map(three)), 1)


if __name__ == "__main__":
    unittest.main()
