"""[10], [11]: ways and the worlds that they make."""

import unittest

from arrowworlds import errors
from arrowworlds.orders import chain_world
from arrowworlds.ways import free_world, least_way, told_world, ways
from arrowworlds.worlds import world_breach
from tests.samples import APART8, CHAIN3, EMPTY, EQUALIZED, FORK, POINT, check_calls, hand, raised
from tests.webs import (JUST_200, LONGER, MORE_201, PARALLEL, STAGES, WEB, WEBS, classes_by_words, end_of)

TWO_HUNDRED = (errors.TooMany, {"limit": 200})
FORTY = (errors.TooMany, {"limit": 40})
EIGHT = (errors.TooMany, {"limit": 8})


class Ways(unittest.TestCase):

    def test_by_hand(self):
        self.assertEqual(ways(WEB), ((0, ()), (0, (1,)), (0, (2,)), (0, (1, 0)), (0, (2, 0)),
                                     (1, ()), (1, (0,)), (2, ())))
        # To one thing the way with fewer roads comes first, whatever its word.
        self.assertEqual(ways((3, ((0, 1), (1, 2), (0, 2)))),
                         ((0, ()), (0, (0,)), (0, (2,)), (0, (0, 1)), (1, ()), (1, (1,)), (2, ())))

    def test_nothing(self):
        self.assertEqual(ways((0, ())), ())
        self.assertEqual(ways((3, ())), ((0, ()), (1, ()), (2, ())))

    def test_equal_roads(self):
        self.assertEqual(ways((2, ((0, 1),) * 3)), ((0, ()), (0, (0,)), (0, (1,)), (0, (2,)), (1, ())))

    def test_each_is_a_way_and_the_sequence(self):
        for web in WEBS:
            found = ways(web)
            keys = [(x, end_of(web, (x, word)), len(word), word) for x, word in found]
            self.assertEqual(keys, sorted(set(keys)))
            for x, word in found:
                at = x
                for r in word:
                    self.assertEqual(web[1][r][0], at)
                    at = web[1][r][1]
                longer = [(x, word + (r,)) for r, road in enumerate(web[1]) if road[0] == at]
                self.assertTrue(set(longer) <= set(found))

    def test_two_hundred(self):
        self.assertEqual(len(ways(JUST_200)), 200)
        self.assertEqual(raised(ways, MORE_201), TWO_HUNDRED)
        self.assertEqual(raised(ways, (7, tuple((k // 2, k // 2 + 1) for k in range(12)))), TWO_HUNDRED)


class FreeWorlds(unittest.TestCase):

    def test_by_hand(self):
        self.assertEqual(free_world((0, ())), EMPTY)
        self.assertEqual(free_world((1, ())), POINT)
        self.assertEqual(free_world((8, ())), APART8)
        self.assertEqual(free_world(PARALLEL), FORK)
        self.assertEqual(free_world(WEB), hand(3, [(0, 1), (0, 1), (0, 2), (0, 2), (1, 2)], {(3, 7): 5, (4, 7): 6}))
        self.assertEqual(free_world((3, ((0, 1), (1, 2), (0, 2)))),
                         hand(3, [(0, 1), (0, 2), (0, 2), (1, 2)], {(3, 6): 5}))

    def test_words_ascend_behind_the_number_of_roads(self):
        # From 0 to 3 lead (4,) and then (0, 2, 3) and (1, 2, 3), numbered 7, 8 and 9.
        web = (4, ((0, 1), (0, 1), (1, 2), (2, 3), (0, 3)))
        made = hand(4, [(0, 1), (0, 1), (0, 2), (0, 2), (0, 3), (0, 3), (0, 3), (1, 2), (1, 3), (2, 3)],
                    {(4, 11): 6, (5, 11): 7, (4, 12): 9, (5, 12): 10, (6, 13): 9, (7, 13): 10, (11, 13): 12})
        self.assertEqual(free_world(web), made)

    def test_worlds(self):
        for web in WEBS:
            if len(ways(web)) <= 40:
                made = free_world(web)
                self.assertIsNone(world_breach(made))
                self.assertEqual((made[0], len(made[1])), (web[0], len(ways(web))))

    def test_errors(self):
        self.assertEqual(raised(free_world, MORE_201), TWO_HUNDRED)
        self.assertEqual(raised(free_world, JUST_200), FORTY)
        self.assertEqual(raised(free_world, (9, ())), EIGHT)
        # 5 ways without a road, 10 of one road and 25 of two make 40.
        self.assertEqual(raised(free_world, (6, ((0, 1),) * 5 + ((1, 2),) * 5)), FORTY)
        self.assertEqual(len(free_world((5, ((0, 1),) * 5 + ((1, 2),) * 5))[1]), 40)


class LeastWays(unittest.TestCase):

    def test_fewest_roads_and_then_the_word(self):
        equals = (((1,), (2,)),)
        self.assertEqual(least_way(WEB, equals, (0, (2,))), (0, (1,)))
        self.assertEqual(least_way(WEB, equals, (0, (1,))), (0, (1,)))
        self.assertEqual(least_way(WEB, equals, (0, (2, 0))), (0, (1, 0)))
        self.assertEqual(least_way(WEB, equals, (1, ())), (1, ()))
        self.assertEqual(least_way((3, ((0, 1), (1, 2), (0, 2))), (((0, 1), (2,)),), (0, (0, 1))), (0, (2,)))
        self.assertEqual(least_way((3, ((0, 1), (1, 2), (0, 2))), (((2,), (0, 1)),), (0, (0, 1))), (0, (2,)))

    def test_several_replacings(self):
        equals = (((1,), (0,)), ((2,), (3,)), ((5,), (4,)))
        self.assertEqual(least_way(STAGES, equals, (0, (1, 3, 5))), (0, (0, 2, 4)))
        self.assertEqual(least_way(STAGES, equals, (1, (3, 5))), (1, (2, 4)))
        self.assertEqual(least_way(STAGES, equals[:2], (0, (1, 3, 5))), (0, (0, 2, 5)))
        turns = (((1, 3), (0, 2)), ((2, 5), (3, 4)))
        self.assertEqual(least_way(STAGES, turns, (0, (1, 3, 5))), (0, (0, 2, 5)))
        self.assertEqual(least_way(STAGES, turns, (0, (0, 3, 4))), (0, (0, 2, 5)))
        self.assertEqual(least_way(STAGES, turns, (0, (1, 3, 4))), (0, (0, 2, 4)))

    def test_equal_only_through_longer_ones(self):
        equals = (((0,), (2, 3, 4)), ((1,), (2, 3, 4)))
        for word in ((0,), (1,), (2, 3, 4)):
            self.assertEqual(least_way(LONGER, equals, (0, word)), (0, (0,)))
        # 0 is one with 2, 3, 4, which 3 and 5 being one makes 2, 5, 4, and that is one with 1.
        web = (4, ((0, 3), (0, 3), (0, 1), (1, 2), (2, 3), (1, 2)))
        equals = (((0,), (2, 3, 4)), ((5,), (3,)), ((2, 5, 4), (1,)))
        self.assertEqual(least_way(web, equals, (0, (1,))), (0, (0,)))
        self.assertEqual(least_way(web, equals[:2], (0, (1,))), (0, (1,)))

    def test_by_the_words(self):
        for web in WEBS:
            for equals in classes_by_words(web):
                for way, members in classes_by_words(web)[equals].items():
                    least = min((len(word), word) for word in members)[1]
                    self.assertEqual(least_way(web, equals, way), (way[0], least))

    def test_errors(self):
        self.assertEqual(raised(least_way, MORE_201, (), (0, ())), TWO_HUNDRED)
        self.assertEqual(least_way(JUST_200, (((3,), (2,)),), (2, (3,))), (2, (2,)))


class ToldWorlds(unittest.TestCase):

    def test_by_hand(self):
        self.assertEqual(told_world(WEB, (((2,), (1,)),)), CHAIN3)
        self.assertEqual(told_world(WEB, (((1, 0), (2, 0)),)), EQUALIZED)
        self.assertEqual(told_world(WEB, ()), free_world(WEB))
        self.assertEqual(told_world((0, ()), ()), EMPTY)
        self.assertEqual(told_world((3, ((0, 1), (1, 2), (0, 2))), (((0, 1), (2,)),)), CHAIN3)
        # From 0 to 3 lead the least words (0,) and (1,); what 2 and then 3, 4 make is the latter.
        self.assertEqual(told_world(LONGER, (((1,), (2, 3, 4)),)),
                         hand(4, [(0, 1), (0, 2), (0, 3), (0, 3), (1, 2), (1, 3), (2, 3)],
                              {(4, 8): 5, (4, 9): 7, (5, 10): 7, (8, 10): 9}))

    def test_worlds(self):
        for web in WEBS:
            for equals, found in classes_by_words(web).items():
                many = len(set((way[0], tuple(sorted(members))) for way, members in found.items()))
                if many <= 40:
                    made = told_world(web, equals)
                    self.assertIsNone(world_breach(made))
                    self.assertEqual(len(made[1]), many)

    def test_errors(self):
        self.assertEqual(raised(told_world, MORE_201, ()), TWO_HUNDRED)
        self.assertEqual(raised(told_world, JUST_200, ()), FORTY)
        self.assertEqual(raised(told_world, (9, ()), ()), EIGHT)
        self.assertEqual(raised(told_world, (9, ((0, 1),) * 40), ()), EIGHT)

    def test_two_hundred_ways_taken_as_few(self):
        roads = JUST_200[1]
        equals = tuple(((k,), (k + 1,)) for k in range(11) if roads[k] == roads[k + 1])
        made = told_world(JUST_200, equals + (((7,), (5, 8)),))
        self.assertEqual(made, chain_world(8))


class Calls(unittest.TestCase):

    def test_calls(self):
        check_calls(self, ways, {"web": WEB})
        check_calls(self, free_world, {"web": WEB})
        check_calls(self, least_way, {"web": WEB, "equals": (((1,), (2,)),), "way": (0, (2,))})
        check_calls(self, told_world, {"web": WEB, "equals": (((1,), (2,)),)})


if __name__ == "__main__":
    unittest.main()
