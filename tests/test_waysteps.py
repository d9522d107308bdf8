"""[12], [13]: rules and steps between ways, and maps from told worlds."""

import itertools
import unittest

from arrowworlds import errors
from arrowworlds.maps import map_breach, maps_between
from arrowworlds.ways import least_way, told_world, ways
from arrowworlds.waysteps import stepped, told_map, way_rules, way_steps
from tests.samples import (BACK, CHAIN2, CHAIN3, EMPTY, EQUALIZED, FORK, IDLE, SPLIT, TWO, WRONG_VALUES, check_calls,
                           hand, raised, ring)
from tests.webs import JUST_200, LONGER, MORE_201, PARALLEL, STAGES, WEB, WEBS, classes_by_words

TWO_HUNDRED = (errors.TooMany, {"limit": 200})
ONE_EQUAL = (((1,), (2,)),)


def not_steps(place):
    return (errors.NotSteps, {"place": place})


def not_kept(place):
    return (errors.NotKept, {"place": place})


def places_of(word, part):
    return [k for k in range(len(word) - len(part) + 1) if word[k:k + len(part)] == part]


class Rules(unittest.TestCase):

    def test_by_hand(self):
        self.assertEqual(way_rules(WEB, ()), ())
        self.assertEqual(way_rules(WEB, ONE_EQUAL), (((2,), (1,)),))
        self.assertEqual(way_rules(WEB, (((1, 0), (2, 0)),)), (((2, 0), (1, 0)),))
        self.assertEqual(way_rules(LONGER, (((0,), (2, 3, 4)), ((1,), (2, 3, 4)))), (((1,), (0,)), ((2, 3, 4), (0,))))
        self.assertEqual(way_rules(STAGES, (((4,), (5,)), ((1,), (0,)))), (((1,), (0,)), ((5,), (4,))))
        self.assertEqual(way_rules(STAGES, (((1, 3), (0, 2)), ((2, 5), (3, 4)))),
                         (((1, 3), (0, 2)), ((3, 4), (2, 5)), ((1, 2, 5), (0, 2, 4))))
        self.assertEqual(way_rules((0, ()), ()), ())

    def test_sequence(self):
        for web in WEBS:
            for equals in classes_by_words(web):
                rules = way_rules(web, equals)
                keys = [(len(u), u) for u, _ in rules]
                self.assertEqual(keys, sorted(set(keys)))

    def test_by_the_words(self):
        for web in WEBS:
            for equals, found in classes_by_words(web).items():
                least = {}
                for (x, word), members in found.items():
                    least[word] = min((len(member), member) for member in members)[1] if word else ()
                expected = [(len(u), u, v) for u, v in least.items()
                            if u != v and least[u[1:]] == u[1:] and least[u[:-1]] == u[:-1]]
                self.assertEqual(way_rules(web, equals), tuple((u, v) for _, u, v in sorted(expected)))

    def test_replacing_in_any_sequence_comes_to_the_least_way(self):
        for web in WEBS:
            for equals in classes_by_words(web):
                rules = way_rules(web, equals)
                for way in ways(web):
                    self.check_ends(web, equals, rules, way)

    def check_ends(self, web, equals, rules, way):
        """Whatever is replaced first, the word at which no rule can be used is the least one."""
        least = least_way(web, equals, way)[1]
        waiting, seen = [way[1]], {way[1]}
        while waiting:
            word = waiting.pop()
            made = [word[:k] + v + word[k + len(u):] for u, v in rules for k in places_of(word, u)]
            self.assertEqual(not made, word == least)
            waiting += [more for more in made if more not in seen]
            seen |= set(made)


class Steps(unittest.TestCase):

    def test_by_hand(self):
        self.assertEqual(way_steps(WEB, ONE_EQUAL, (0, (1, 0)), (0, (2, 0))), ((0, 0, 0),))
        self.assertEqual(way_steps(WEB, ONE_EQUAL, (0, (2,)), (0, (1,))), ((0, 0, 1),))
        self.assertEqual(way_steps(WEB, ONE_EQUAL, (0, (1,)), (0, (1,))), ())
        self.assertEqual(way_steps(WEB, ONE_EQUAL, (1, ()), (1, ())), ())
        self.assertIsNone(way_steps(WEB, ONE_EQUAL, (0, ()), (1, ())))
        self.assertIsNone(way_steps(WEB, ONE_EQUAL, (0, (1,)), (0, (1, 0))))
        self.assertIsNone(way_steps(WEB, (), (0, (1,)), (0, (2,))))
        self.assertIsNone(way_steps(WEB, (((1, 0), (2, 0)),), (0, (1,)), (0, (2,))))

    def test_all_pairs_of_ways(self):
        for web in WEBS:
            for equals, found in classes_by_words(web).items():
                for one in ways(web):
                    for other in ways(web):
                        self.check_pair(web, equals, found, one, other)

    def check_pair(self, web, equals, found, one, other):
        steps = way_steps(web, equals, one, other)
        if one[0] == other[0] and other[1] in found[one]:
            self.assertIs(type(steps), tuple)
            self.assertEqual(stepped(web, equals, one, steps), other)
        else:
            self.assertIsNone(steps)

    def test_through_longer_ones(self):
        equals = (((0,), (2, 3, 4)), ((1,), (2, 3, 4)))
        steps = way_steps(LONGER, equals, (0, (0,)), (0, (1,)))
        self.assertEqual(steps, ((0, 0, 0), (0, 1, 1)))


class Stepped(unittest.TestCase):

    def test_by_hand(self):
        equals = (((1,), (0,)), ((2,), (3,)), ((2, 4), (3, 5)))
        self.assertEqual(stepped(STAGES, equals, (0, (1, 2, 4)), ()), (0, (1, 2, 4)))
        self.assertEqual(stepped(STAGES, equals, (0, (1, 2, 4)), ((0, 0, 0),)), (0, (0, 2, 4)))
        self.assertEqual(stepped(STAGES, equals, (0, (1, 2, 4)), ((1, 1, 0), (0, 0, 0))), (0, (0, 3, 4)))
        self.assertEqual(stepped(STAGES, equals, (0, (1, 2, 4)), ((1, 2, 0), (1, 1, 1))), (0, (1, 2, 5)))
        self.assertEqual(stepped(STAGES, equals, (2, (4,)), ()), (2, (4,)))
        self.assertEqual(stepped(LONGER, (((0,), (2, 3, 4)),), (0, (0,)), ((0, 0, 0),)), (0, (2, 3, 4)))
        self.assertEqual(stepped(LONGER, (((0,), (2, 3, 4)),), (0, (2, 3, 4)), ((0, 0, 1),)), (0, (0,)))

    def test_no_tuple(self):
        for steps in WRONG_VALUES + ([(0, 0, 0)], "000"):
            self.assertEqual(raised(stepped, WEB, ONE_EQUAL, (0, (1,)), steps), not_steps(-1))

    def test_entries_that_are_no_steps(self):
        wrong = WRONG_VALUES + ((), (0,), (0, 0), (0, 0, 0, 0), [0, 0, 0], "000")
        wrong += tuple((entry, 0, 0) for entry in (True, False, None, "0", 0.0, -1, -2, 1, 2, 10 ** 30, [0], (0,)))
        wrong += tuple((0, entry, 0) for entry in (True, False, None, "0", 0.0, -1, 1, 10 ** 30, [0], (0,)))
        wrong += tuple((0, 0, entry) for entry in (True, False, None, "0", 0.0, -1, 1, 2, 10 ** 30, [0], (0,)))
        for step in wrong:
            self.assertEqual(raised(stepped, WEB, ONE_EQUAL, (0, (1, 0)), (step,)), not_steps(0), step)
            self.assertEqual(raised(stepped, WEB, ONE_EQUAL, (0, (2, 0)), ((0, 0, 1), step)), not_steps(1), step)

    def test_true_where_one_would_be_a_step(self):
        equals = (((0,), (0,)), ((1,), (2,)))
        self.assertEqual(stepped(WEB, equals, (0, (2, 0)), ((0, 1, 1), (1, 0, 0))), (0, (1, 0)))
        for step in ((False, 1, 1), (0, True, 1), (0, 1, True)):
            self.assertEqual(raised(stepped, WEB, equals, (0, (2, 0)), (step,)), not_steps(0))
        for step in ((True, 0, 0), (1, False, 0), (1, 0, False)):
            self.assertEqual(raised(stepped, WEB, equals, (0, (2, 0)), (step,)), not_steps(0))

    def test_the_first_one_is_told(self):
        good, bad = (0, 0, 0), (0, 0, 1)
        self.assertEqual(raised(stepped, WEB, ONE_EQUAL, (0, (1,)), (good, good, None)), not_steps(1))
        self.assertEqual(raised(stepped, WEB, ONE_EQUAL, (0, (1,)), (good, bad, good, bad, bad)), not_steps(4))

    def test_word_does_not_stand_there(self):
        equals = (((2, 4), (3, 5)),)
        self.assertEqual(raised(stepped, STAGES, equals, (0, (0, 2, 4)), ((0, 0, 0),)), not_steps(0))
        self.assertEqual(raised(stepped, STAGES, equals, (0, (0, 2, 4)), ((2, 0, 0),)), not_steps(0))
        self.assertEqual(raised(stepped, STAGES, equals, (0, (0, 2, 4)), ((-2, 0, 0),)), not_steps(0))
        self.assertEqual(raised(stepped, STAGES, equals, (0, (0, 2, 4)), ((1, 0, 1),)), not_steps(0))
        self.assertEqual(raised(stepped, STAGES, equals, (0, (0, 2)), ((1, 0, 0),)), not_steps(0))
        self.assertEqual(raised(stepped, STAGES, equals, (0, ()), ((0, 0, 0),)), not_steps(0))
        self.assertEqual(raised(stepped, STAGES, (), (0, (0,)), ((0, 0, 0),)), not_steps(0))


class ToldMaps(unittest.TestCase):

    def test_by_hand(self):
        self.assertEqual(told_map(WEB, ONE_EQUAL, CHAIN3, (0, 1, 2), (5, 3, 3)), ((0, 1, 2), (0, 1, 2, 3, 4, 5)))
        self.assertEqual(told_map(WEB, (), CHAIN3, (0, 1, 2), (5, 3, 3)), ((0, 1, 2), (0, 1, 2, 3, 3, 4, 4, 5)))
        self.assertEqual(told_map(WEB, (((1, 0), (2, 0)),), EQUALIZED, (0, 1, 2), (6, 4, 3)),
                         ((0, 1, 2), (0, 1, 2, 4, 3, 5, 6)))
        self.assertEqual(told_map(WEB, ONE_EQUAL, SPLIT, (0, 1, 0), (4, 3, 3)), ((0, 1, 0), (0, 1, 0, 3, 2, 4)))
        self.assertEqual(told_map(STAGES, (((1,), (0,)), ((3,), (2,)), ((5,), (4,))), ring(5), (0,) * 4, (1, 1, 2, 2, 4, 4)),
                         ((0,) * 4, (0, 0, 0, 0, 1, 3, 2, 2, 1, 4)))
        self.assertEqual(told_map((0, ()), (), EMPTY, (), ()), ((), ()))
        self.assertEqual(told_map((2, ()), (), IDLE, (0, 0), ()), ((0, 0), (0, 0)))

    def test_wrong_ends(self):
        self.assertEqual(raised(told_map, WEB, (), CHAIN3, (0, 1, 2), (5, 3, 4)), not_kept(-1))
        self.assertEqual(raised(told_map, WEB, (), CHAIN3, (0, 1, 2), (3, 3, 3)), not_kept(-1))
        self.assertEqual(raised(told_map, WEB, (), CHAIN3, (1, 0, 2), (5, 3, 3)), not_kept(-1))
        self.assertEqual(raised(told_map, PARALLEL, (), BACK, (0, 1), (2, 3)), not_kept(-1))

    def test_unlike_arrows(self):
        four = (2, ((0, 1),) * 4)
        equals = (((0,), (1,)), ((1,), (2,)), ((2,), (3,)))
        wide = hand(2, [(0, 1)] * 3)
        self.assertEqual(told_map(four, equals, wide, (0, 1), (3, 3, 3, 3)), ((0, 1), (0, 1, 3)))
        self.assertEqual(raised(told_map, four, equals, wide, (0, 1), (2, 3, 4, 2)), not_kept(0))
        self.assertEqual(raised(told_map, four, equals, wide, (0, 1), (2, 2, 3, 4)), not_kept(1))
        self.assertEqual(raised(told_map, four, equals, wide, (0, 1), (2, 2, 2, 3)), not_kept(2))
        self.assertEqual(raised(told_map, WEB, (((1, 0), (2, 0)),), ring(3), (0, 0, 0), (1, 1, 2)), not_kept(0))
        self.assertEqual(told_map(WEB, (((1, 0), (2, 0)),), IDLE, (0, 0, 0), (1, 0, 1)),
                         ((0, 0, 0), (0, 0, 0, 0, 1, 1, 1)))

    def test_wrong_ends_come_ahead_of_unlike_arrows(self):
        web = (3, ((0, 1), (0, 1), (1, 2)))
        world = hand(3, [(0, 1), (0, 1), (0, 2), (0, 2), (1, 2)], {(3, 7): 5, (4, 7): 6})
        equals = (((0,), (1,)),)
        self.assertEqual(raised(told_map, web, equals, world, (0, 1, 2), (3, 4, 7)), not_kept(0))
        self.assertEqual(raised(told_map, web, equals, world, (0, 1, 2), (3, 4, 6)), not_kept(-1))
        self.assertEqual(raised(told_map, web, equals, TWO, (0, 1, 0), (0, 1, 1)), not_kept(-1))

    def test_errors_of_making_come_last(self):
        web = (6, ((0, 1),) * 5 + ((1, 2),) * 5)
        self.assertEqual(raised(told_map, web, (), ring(2), (0,) * 6, (1,) * 10), (errors.TooMany, {"limit": 40}))
        self.assertEqual(raised(told_map, web, (((0,), (1,)),), ring(2), (0,) * 6, (0,) + (1,) * 9), not_kept(0))
        self.assertEqual(raised(told_map, web, (), CHAIN2, (0,) * 6, (2,) * 10), not_kept(-1))
        nine = (9, ((0, 1),) * 2)
        self.assertEqual(raised(told_map, nine, (), ring(2), (0,) * 9, (0, 1)), (errors.TooMany, {"limit": 8}))
        self.assertEqual(raised(told_map, nine, (((0,), (1,)),), ring(2), (0,) * 9, (0, 1)), not_kept(0))

    def test_each_map_comes_from_just_one_pair(self):
        others = (CHAIN2, FORK, BACK, IDLE, SPLIT, ring(2), EMPTY)
        some = [(web, equals) for web in WEBS if web[0] <= 3 and len(web[1]) <= 4 for equals in classes_by_words(web)]
        self.assertGreater(len(some), 10)
        for web, equals in some:
            for other in others:
                self.check_all(web, equals, other)

    def check_all(self, web, equals, other):
        found = []
        for things in itertools.product(range(other[0]), repeat=web[0]):
            for arrows in itertools.product(range(len(other[1])), repeat=len(web[1])):
                try:
                    found.append(told_map(web, equals, other, things, arrows))
                except errors.NotKept:
                    pass
        self.assertEqual(tuple(sorted(found)), maps_between(told_world(web, equals), other))
        for along in found[:3]:
            self.assertIsNone(map_breach(told_world(web, equals), other, along))


class Both(unittest.TestCase):

    def test_too_many_comes_ahead_of_all_else(self):
        equals = (((4,), (5,)),)
        self.assertEqual(raised(way_rules, MORE_201, equals), TWO_HUNDRED)
        self.assertEqual(raised(way_steps, MORE_201, equals, (0, ()), (0, ())), TWO_HUNDRED)
        self.assertEqual(raised(way_steps, MORE_201, equals, (0, ()), (1, ())), TWO_HUNDRED)
        self.assertEqual(raised(stepped, MORE_201, equals, (0, ()), ()), TWO_HUNDRED)
        self.assertEqual(raised(stepped, MORE_201, equals, (0, ()), None), TWO_HUNDRED)
        self.assertEqual(raised(stepped, MORE_201, equals, (0, ()), (None,)), TWO_HUNDRED)
        self.assertEqual(raised(told_map, MORE_201, equals, CHAIN2, (0,) * 8, (2,) * 12), TWO_HUNDRED)
        self.assertEqual(raised(told_map, MORE_201, equals, ring(2), (0,) * 8, (0, 1) * 6), TWO_HUNDRED)

    def test_two_hundred_are_let(self):
        equals = (((2,), (3,)),)
        self.assertEqual(way_rules(JUST_200, equals), (((3,), (2,)),))
        self.assertEqual(way_steps(JUST_200, equals, (1, (1, 2)), (1, (1, 3))), ((1, 0, 0),))
        self.assertEqual(stepped(JUST_200, equals, (1, (1, 3)), ((1, 0, 1),)), (1, (1, 2)))

    def test_calls(self):
        check_calls(self, way_rules, {"web": WEB, "equals": ONE_EQUAL})
        check_calls(self, way_steps, {"web": WEB, "equals": ONE_EQUAL, "one": (0, (1, 0)), "other": (0, (2, 0))})
        check_calls(self, way_steps, {"web": WEB, "equals": ONE_EQUAL, "one": (0, (1, 0)), "other": (0, (2,))})
        check_calls(self, stepped, {"web": WEB, "equals": ONE_EQUAL, "way": (0, (1,)), "steps": ((0, 0, 0),)})
        check_calls(self, told_map, {"web": WEB, "equals": ONE_EQUAL, "other": CHAIN3, "things": (0, 1, 2),
                                     "arrows": (5, 3, 3)})


if __name__ == "__main__":
    unittest.main()
