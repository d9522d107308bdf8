"""[14], [15]: maps from worlds to worlds."""

import unittest

from arrowworlds import errors
from arrowworlds.made import product, sum_of
from arrowworlds.maps import (behind, does_fill, is_faithful, is_full, map_breach, maps_between, still_map)
from arrowworlds.worlds import turned
from tests.samples import (APART8, BACK, CHAIN2, CHAIN3, EMPTY, EQUALIZED, FORK, IDLE, POINT, SMALL, SPLIT, TWO,
                           WRONG_VALUES, all_maps, band, check_calls, cycles, hand, is_map, null, raised, random_worlds,
                           ring)

THOUSAND = (errors.TooMany, {"limit": 1000})


def answers(one, other, along):
    return (is_full(one, other, along), is_faithful(one, other, along), does_fill(one, other, along))


class Breaches(unittest.TestCase):

    def check(self, one, other, value, word):
        self.assertEqual(map_breach(one, other, value), word, value)

    def test_maps(self):
        self.check(CHAIN2, CHAIN3, ((0, 2), (0, 2, 4)), None)
        self.check(CHAIN2, CHAIN3, ((1, 1), (1, 1, 1)), None)
        self.check(CHAIN3, CHAIN2, ((0, 0, 1), (0, 0, 1, 0, 2, 2)), None)
        self.check(SPLIT, IDLE, ((0, 0), (0, 0, 1, 0, 1)), "then")
        self.check(BACK, ring(3), ((0, 0), (0, 0, 1, 2)), None)
        self.check(EMPTY, EMPTY, ((), ()), None)
        self.check(EMPTY, SPLIT, ((), ()), None)

    def test_each_word_alone(self):
        self.check(CHAIN2, CHAIN3, ((0, 3), (0, 1, 3)), "form")
        self.check(CHAIN2, CHAIN3, ((0, 2), (0, 2, 3)), "ends")
        self.check(CHAIN2, CHAIN3, ((2, 0), (2, 0, 4)), "ends")
        self.check(POINT, CHAIN2, ((0,), (1,)), "ends")
        self.check(POINT, IDLE, ((0,), (1,)), "still")
        self.check(TWO, IDLE, ((0, 0), (0, 1)), "still")
        self.check(ring(2), IDLE, ((0,), (0, 1)), "then")
        self.check(ring(3), ring(3), ((0,), (0, 1, 1)), "then")
        self.check(EQUALIZED, EQUALIZED, ((0, 1, 2), (0, 1, 2, 3, 4, 5, 6)), None)
        self.check(CHAIN3, hand(3, [(0, 1), (0, 2), (0, 2), (1, 2)], {(3, 6): 5}),
                   ((0, 1, 2), (0, 1, 2, 3, 4, 6)), "then")

    def test_several_at_once(self):
        self.check(ring(2), ring(2), ((0,), (1, 1)), "still")
        self.check(IDLE, ring(3), ((0,), (1, 1)), "still")
        # The arrow 1 is not still where 0 is, and does not go along.
        self.check(sum_of(ring(2), POINT), sum_of(IDLE, POINT), ((0, 0), (2, 1, 2)), "ends")
        self.check(sum_of(ring(2), POINT), sum_of(IDLE, POINT), ((0, 1), (2, 1, 2)), "still")
        self.check(sum_of(ring(2), POINT), sum_of(IDLE, POINT), ((0, 1), (0, 1, 2)), "then")
        self.check(sum_of(ring(2), POINT), sum_of(IDLE, POINT), ((0, 2), (2, 1, 2)), "form")
        self.check(CHAIN2, sum_of(IDLE, POINT), ((0, 1), (2, 1, 0)), "ends")

    def test_other_values(self):
        good = ((0, 2), (0, 2, 4))
        for value in WRONG_VALUES + (list(good), good[:1], good + ((),), (good,), (good[1], good[0])):
            self.check(CHAIN2, CHAIN3, value, "form")
        for row in WRONG_VALUES + ([0, 2], (), (0,), (0, 2, 0), "02"):
            self.check(CHAIN2, CHAIN3, (row, good[1]), "form")
        for row in WRONG_VALUES + ([0, 2, 4], (), (0, 2), (0, 2, 4, 4), "024"):
            self.check(CHAIN2, CHAIN3, (good[0], row), "form")
        for entry in (None, True, False, "0", 0.0, [0], (0,), -1, 3, 10 ** 30):
            self.check(CHAIN2, CHAIN3, ((entry, 2), good[1]), "form")
            self.check(CHAIN2, CHAIN3, ((0, entry), good[1]), "form")
        for entry in (None, True, False, "0", 0.0, [0], (0,), -1, 6, 10 ** 30):
            for k in range(3):
                self.check(CHAIN2, CHAIN3, (good[0], good[1][:k] + (entry,) + good[1][k + 1:]), "form")

    def test_true_for_one(self):
        self.check(POINT, TWO, ((1,), (1,)), None)
        self.check(POINT, TWO, ((True,), (1,)), "form")
        self.check(POINT, TWO, ((1,), (True,)), "form")
        self.check(POINT, TWO, ((False,), (0,)), "form")

    def test_from_and_to_the_empty_world(self):
        self.check(EMPTY, CHAIN2, ((0,), ()), "form")
        self.check(EMPTY, CHAIN2, ((), (0,)), "form")
        self.check(CHAIN2, EMPTY, ((), ()), "form")
        self.check(POINT, EMPTY, ((0,), (0,)), "form")


class Maps(unittest.TestCase):

    def test_still_map(self):
        self.assertEqual(still_map(EMPTY), ((), ()))
        self.assertEqual(still_map(CHAIN3), ((0, 1, 2), (0, 1, 2, 3, 4, 5)))
        self.assertEqual(still_map(ring(3)), ((0,), (0, 1, 2)))

    def test_behind(self):
        first = ((0, 0, 1), (0, 0, 1, 0, 2, 2))
        second = ((1, 0), (1, 0, 3))
        self.assertEqual(behind(first, second), ((1, 1, 0), (1, 1, 0, 1, 3, 3)))
        self.assertEqual(behind(((), ()), second), ((), ()))
        self.assertEqual(behind(still_map(CHAIN2), second), second)
        self.assertEqual(behind(first, still_map(CHAIN2)), first)

    def test_maps_behind_maps(self):
        for first in maps_between(SPLIT, BACK):
            for second in maps_between(BACK, ring(2)):
                self.assertTrue(is_map(SPLIT, ring(2), *behind(first, second)))

    def test_maps_between_by_hand(self):
        self.assertEqual(maps_between(CHAIN2, CHAIN2), (((0, 0), (0, 0, 0)), ((0, 1), (0, 1, 2)), ((1, 1), (1, 1, 1))))
        self.assertEqual(maps_between(CHAIN2, FORK), (((0, 0), (0, 0, 0)), ((0, 1), (0, 1, 2)), ((0, 1), (0, 1, 3)),
                                                      ((1, 1), (1, 1, 1))))
        self.assertEqual(maps_between(ring(2), ring(4)), (((0,), (0, 0)), ((0,), (0, 2))))
        self.assertEqual(maps_between(ring(3), ring(2)), (((0,), (0, 0, 0)),))
        self.assertEqual(maps_between(IDLE, SPLIT), (((0,), (0, 0)), ((0,), (0, 2)), ((1,), (1, 1))))
        self.assertEqual(maps_between(BACK, CHAIN2), (((0, 0), (0, 0, 0, 0)), ((1, 1), (1, 1, 1, 1))))

    def test_from_and_to_the_empty_world(self):
        self.assertEqual(maps_between(EMPTY, EMPTY), (((), ()),))
        self.assertEqual(maps_between(EMPTY, SPLIT), (((), ()),))
        self.assertEqual(maps_between(SPLIT, EMPTY), ())
        self.assertEqual(maps_between(POINT, EMPTY), ())

    def test_all_maps(self):
        worlds = SMALL + tuple(random_worlds(15, 12, 7))
        for one in worlds:
            for other in worlds:
                if one[0] <= 3 and (len(one[1]) - one[0]) * len(other[1]) <= 30:
                    self.assertEqual(maps_between(one, other), all_maps(one, other))

    def test_each_is_a_map_and_they_ascend(self):
        for one in random_worlds(16, 6, 15):
            for other in random_worlds(17, 6, 15):
                try:
                    found = maps_between(one, other)
                except errors.TooMany as e:
                    self.assertEqual(e.limit, 1000)
                    continue
                self.assertEqual(list(found), sorted(set(found)))
                for along in found:
                    self.assertTrue(is_map(one, other, *along))
                    self.assertIsNone(map_breach(one, other, along))
                    self.assertIsNone(map_breach(turned(one), turned(other), along))

    def test_a_thousand(self):
        three = sum_of(CHAIN2, sum_of(CHAIN2, CHAIN2))
        self.assertEqual(len(maps_between(three, ring(10))), 1000)
        self.assertEqual(raised(maps_between, three, ring(11)), THOUSAND)
        # 13 arrows, 11 idle ones and 7 things: 1001 maps.
        world = sum_of(sum_of(product(TWO, ring(2)), product(hand(4, []), IDLE)), POINT)
        self.assertEqual((world[0], len(world[1])), (7, 13))
        self.assertEqual(len(maps_between(sum_of(CHAIN2, IDLE), world)), 143)
        self.assertEqual(raised(maps_between, sum_of(sum_of(CHAIN2, IDLE), POINT), world), THOUSAND)

    def test_great_worlds(self):
        self.assertEqual(raised(maps_between, APART8, APART8), THOUSAND)
        self.assertEqual(len(maps_between(ring(40), ring(40))), 40)
        self.assertEqual(len(maps_between(null(40), ring(40))), 1)
        self.assertEqual(len(maps_between(ring(40), band(40))), 1)
        self.assertEqual(len(maps_between(null(40), band(40))), 40)
        self.assertEqual(raised(maps_between, band(40), band(40)), THOUSAND)
        self.assertEqual(raised(maps_between, cycles([5] * 7), cycles([7] * 5)), THOUSAND)

    def test_products_and_sums(self):
        some = (EMPTY, POINT, TWO, CHAIN2, BACK, IDLE, ring(2))
        for one in some:
            for two in some:
                for other in some:
                    if product(one, two)[0] <= 8:
                        self.assertEqual(len(maps_between(other, product(one, two))),
                                         len(maps_between(other, one)) * len(maps_between(other, two)))
                        self.assertEqual(len(maps_between(sum_of(one, two), other)),
                                         len(maps_between(one, other)) * len(maps_between(two, other)))


class Sorts(unittest.TestCase):

    def test_all_three(self):
        self.assertEqual(answers(SPLIT, SPLIT, still_map(SPLIT)), (True, True, True))
        self.assertEqual(answers(EMPTY, EMPTY, ((), ())), (True, True, True))
        # One of two things that are the same is enough.
        self.assertEqual(answers(POINT, BACK, ((0,), (0,))), (True, True, True))
        self.assertEqual(answers(POINT, BACK, ((1,), (1,))), (True, True, True))
        self.assertEqual(answers(BACK, POINT, ((0, 0), (0, 0, 0, 0))), (True, True, True))

    def test_just_not_full(self):
        self.assertEqual(answers(POINT, ring(2), ((0,), (0,))), (False, True, True))
        self.assertEqual(answers(CHAIN2, FORK, ((0, 1), (0, 1, 2))), (False, True, True))
        self.assertEqual(answers(TWO, CHAIN2, ((0, 1), (0, 1))), (False, True, True))
        # Full asks for an arrow between each two things that go there.
        self.assertEqual(answers(TWO, POINT, ((0, 0), (0, 0))), (False, True, True))

    def test_just_not_faithful(self):
        self.assertEqual(answers(ring(2), POINT, ((0,), (0, 0))), (True, False, True))
        self.assertEqual(answers(FORK, CHAIN2, ((0, 1), (0, 1, 2, 2))), (True, False, True))
        self.assertEqual(answers(IDLE, POINT, ((0,), (0, 0))), (True, False, True))

    def test_does_just_not_fill(self):
        self.assertEqual(answers(POINT, CHAIN2, ((0,), (0,))), (True, True, False))
        self.assertEqual(answers(POINT, CHAIN2, ((1,), (1,))), (True, True, False))
        self.assertEqual(answers(EMPTY, POINT, ((), ())), (True, True, False))
        # A thing with arrows there and back that do not turn one another back is not reached.
        self.assertEqual(answers(IDLE, SPLIT, ((0,), (0, 2))), (True, True, False))
        self.assertEqual(answers(POINT, SPLIT, ((1,), (1,))), (True, True, False))

    def test_none(self):
        self.assertEqual(answers(ring(2), sum_of(IDLE, POINT), ((0,), (0, 0))), (False, False, False))
        self.assertEqual(answers(FORK, sum_of(ring(2), POINT), ((0, 0), (0, 0, 0, 0))), (False, False, False))

    def test_faithful_asks_for_arrows_between_the_same_things_alone(self):
        self.assertEqual(answers(CHAIN2, POINT, ((0, 0), (0, 0, 0))), (False, True, True))

    def test_by_the_words(self):
        for one in random_worlds(18, 8, 7):
            for other in random_worlds(19, 8, 7):
                for along in all_maps(one, other)[::7]:
                    self.assertEqual(answers(one, other, along), self.by_words(one, other, along))

    def by_words(self, one, other, along):
        p, q = along
        arrows, more = range(len(one[1])), range(len(other[1]))
        full = all(any(one[1][f] == (x, y) and q[f] == g for f in arrows)
                   for x in range(one[0]) for y in range(one[0]) for g in more if other[1][g] == (p[x], p[y]))
        faithful = all(f == g for f in arrows for g in arrows if one[1][f] == one[1][g] and q[f] == q[g])
        turnable = [f for f in more if any(other[2][f][g] in range(other[0]) and other[2][g][f] in range(other[0])
                                           for g in more)]
        fills = all(any(other[1][f] == (p[x], z) for f in turnable for x in range(one[0])) for z in range(other[0]))
        return (full, faithful, fills)


class Calls(unittest.TestCase):

    def test_calls(self):
        along = ((0, 0, 1), (0, 0, 1, 0, 2, 2))
        check_calls(self, map_breach, {"one": CHAIN3, "other": CHAIN2, "value": along})
        check_calls(self, map_breach, {"one": CHAIN3, "other": CHAIN2, "value": [along]})
        check_calls(self, still_map, {"world": CHAIN3})
        check_calls(self, behind, {"first": along, "second": ((0, 1), (0, 1, 4))})
        check_calls(self, maps_between, {"one": CHAIN3, "other": CHAIN2})
        for function in (is_full, is_faithful, does_fill):
            check_calls(self, function, {"one": CHAIN3, "other": CHAIN2, "along": along})


if __name__ == "__main__":
    unittest.main()
