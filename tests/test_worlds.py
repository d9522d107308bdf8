"""[1], [3], [4], [5]: what a world is, and what stands in it."""

import itertools
import unittest

from arrowworlds import errors
from arrowworlds.arrows import is_sure, is_wide
from arrowworlds.orders import loop_world
from arrowworlds.worlds import between, check_world, followed, turned, world_breach
from tests.samples import (APART8, BACK, CHAIN2, CHAIN3, EMPTY, EQUALIZED, FORK, IDLE, POINT, SMALL, SPLIT, TWO,
                           WRONG_VALUES, band, check_calls, null, raised, random_worlds, ring)


def with_entry(world, f, g, entry):
    """The world with another entry in its table."""
    n, ends, table = world
    row = table[f][:g] + (entry,) + table[f][g + 1:]
    return (n, ends, table[:f] + (row,) + table[f + 1:])


def with_ends(world, k, pair):
    """The world with other ends of an arrow."""
    n, ends, table = world
    return (n, ends[:k] + (pair,) + ends[k + 1:], table)


class Good(unittest.TestCase):

    def test_worlds(self):
        for world in SMALL + (APART8, ring(40), band(40), null(40)):
            self.assertIsNone(world_breach(world))
            self.assertIs(check_world(world), world)

    def test_random_worlds(self):
        for world in random_worlds(1, 40, 40):
            self.assertIsNone(world_breach(world))

    def test_forty_arrows_between_two_things(self):
        n, ends = 2, ((0, 0), (1, 1)) + ((0, 1),) * 38
        table = tuple(tuple([g if f == 0 and x == 0 else f if y == 1 and g == 1 else -1
                             for g, (x, _) in enumerate(ends)]) for f, (_, y) in enumerate(ends))
        self.assertIsNone(world_breach((n, ends, table)))


class Form(unittest.TestCase):

    def check(self, value):
        self.assertEqual(world_breach(value), ("form", -1), value)
        self.assertEqual(raised(check_world, value), (errors.NotWorld, {"rule": "form", "place": -1}), value)

    def test_other_values(self):
        for value in WRONG_VALUES + ((), (0,), (0, ()), (0, (), (), ()), list(CHAIN2)):
            self.check(value)

    def test_number_of_things(self):
        for n in (True, False, None, "1", 1.0, -1, 9, [1], (1,), 10 ** 30):
            self.check((n,) + POINT[1:])
        self.check((False, (), ()))
        self.check((-1, (), ()))

    def test_nine_things(self):
        ends = tuple((k, k) for k in range(9))
        table = tuple(tuple(f if f == g else -1 for g in range(9)) for f in range(9))
        self.check((9, ends, table))

    def test_forty_one_arrows(self):
        self.check(ring(41))

    def test_fewer_arrows_than_things(self):
        self.check((2, ((0, 0),), ((0,),)))

    def test_ends(self):
        for ends in (None, True, 0, "ab", b"", [(0, 0), (1, 1), (0, 1)], {}, range(3)):
            self.check((2, ends, CHAIN2[2]))
        for pair in (None, True, 0, "01", [0, 1], (), (0,), (0, 1, 1), (0, True), (False, 1), (0, 1.0),
                     (0, None), ("0", 1), (-1, 1), (0, -1), (2, 1), (0, 2), ((0,), 1)):
            self.check(with_ends(CHAIN2, 2, pair))

    def test_table(self):
        n, ends, table = CHAIN2
        for other in (None, True, 0, "abc", list(table), {}, table[:2], table + (table[0],), ()):
            self.check((n, ends, other))
        for row in (None, True, 0, "abc", list(table[2]), (), table[2][:2], table[2] + (0,)):
            self.check((n, ends, table[:2] + (row,)))
        for entry in (None, True, False, "2", 2.0, [2], (2,), -2, 3, 10 ** 30):
            for f in range(3):
                for g in range(3):
                    self.check(with_entry(CHAIN2, f, g, entry))

    def test_no_things_but_arrows(self):
        self.check((0, ((0, 0),), ((0,),)))

    def test_form_comes_first(self):
        self.check(with_ends(with_entry(CHAIN2, 0, 0, True), 0, (0, 1)))


class OtherRules(unittest.TestCase):

    def check(self, value, rule, place):
        self.assertEqual(world_breach(value), (rule, place))
        self.assertEqual(raised(check_world, value), (errors.NotWorld, {"rule": rule, "place": place}))

    def test_still(self):
        self.check(with_ends(CHAIN2, 0, (0, 1)), "still", 0)
        self.check(with_ends(CHAIN2, 1, (0, 1)), "still", 1)
        self.check(with_ends(TWO, 1, (0, 0)), "still", 1)
        self.check(with_ends(with_ends(CHAIN3, 1, (0, 0)), 2, (1, 1)), "still", 1)

    def test_fit_missing(self):
        for f in range(6):
            for g in range(6):
                if CHAIN3[2][f][g] >= 0:
                    self.check(with_entry(CHAIN3, f, g, -1), "fit", 6 * f + g)

    def test_fit_too_much(self):
        for f in range(6):
            for g in range(6):
                if CHAIN3[2][f][g] == -1:
                    self.check(with_entry(CHAIN3, f, g, 4), "fit", 6 * f + g)

    def test_fit_wrong_ends(self):
        self.check(with_entry(CHAIN3, 3, 5, 3), "fit", 23)
        self.check(with_entry(CHAIN3, 3, 5, 5), "fit", 23)
        self.check(with_entry(CHAIN3, 0, 4, 3), "fit", 4)
        self.check(with_entry(CHAIN3, 5, 2, 4), "fit", 32)

    def test_fit_tells_the_first_pair(self):
        self.check(with_entry(with_entry(CHAIN3, 4, 4, 4), 3, 5, 3), "fit", 23)
        self.check(with_entry(with_entry(CHAIN3, 3, 5, 3), 3, 3, 3), "fit", 21)

    def test_unit(self):
        self.check(with_entry(FORK, 0, 2, 3), "unit", 2)
        self.check(with_entry(FORK, 2, 1, 3), "unit", 2)
        self.check(with_entry(FORK, 0, 3, 2), "unit", 3)
        self.check(with_entry(FORK, 3, 1, 2), "unit", 3)
        self.check(with_entry(with_entry(FORK, 0, 3, 2), 2, 1, 3), "unit", 2)
        self.check((1, ((0, 0),) * 2, ((1, 1), (1, 1))), "unit", 0)
        self.check((1, ((0, 0),) * 2, ((0, 0), (1, 1))), "unit", 1)
        self.check((1, ((0, 0),) * 2, ((0, 1), (0, 1))), "unit", 1)

    def test_order(self):
        # 1 1 is 2, (1 1) 1 is 1 and 1 (1 1) is 2.
        self.check((1, ((0, 0),) * 3, ((0, 1, 2), (1, 2, 2), (2, 1, 2))), "order", 1)
        # (2 1) 2 is 1 and 2 (1 2) is 2; whatever begins with 1 makes 1.
        self.check((1, ((0, 0),) * 3, ((0, 1, 2), (1, 1, 1), (2, 2, 1))), "order", 2)

    def test_order_between_things(self):
        # Two arrows 6 and 7 from 0 to 3: (4.8).10 is 7 and 4.(8.10) is 6.
        ends = ((0, 0), (1, 1), (2, 2), (3, 3), (0, 1), (0, 2), (0, 3), (0, 3), (1, 2), (1, 3), (2, 3))
        made = {(4, 8): 5, (4, 9): 6, (5, 10): 7, (8, 10): 9}
        table = tuple(tuple(-1 if ends[f][1] != ends[g][0] else g if f < 4 else f if g < 4 else made[(f, g)]
                            for g in range(11)) for f in range(11))
        self.check((4, ends, table), "order", 4)

    def test_all_tables_of_three(self):
        for entries in itertools.product(range(3), repeat=4):
            rows = ((0, 1, 2), (1,) + entries[:2], (2,) + entries[2:])
            wrong = [a for a, b, c in itertools.product(range(3), repeat=3) if rows[rows[a][b]][c] != rows[a][rows[b][c]]]
            expected = ("order", wrong[0]) if wrong else None
            self.assertEqual(world_breach((1, ((0, 0),) * 3, rows)), expected)
            self.assertEqual(raised(loop_world, rows), (errors.NotLoops, {}) if wrong else None)

    def test_two_rules(self):
        broken = (1, ((0, 0),) * 3, ((0, 1, 2), (1, 2, 2), (2, 1, 2)))
        self.check(with_entry(broken, 2, 0, 1), "unit", 2)
        self.check(with_entry(broken, 2, 0, -1), "fit", 6)
        self.check(with_entry(with_entry(FORK, 0, 2, 3), 3, 3, 3), "fit", 15)
        self.check(with_entry(with_ends(CHAIN2, 1, (0, 1)), 0, 0, -1), "still", 1)
        self.check(with_entry(with_ends(CHAIN2, 1, (0, 1)), 0, 0, 7), "form", -1)


class Inside(unittest.TestCase):

    def test_between(self):
        self.assertEqual(between(FORK, 0, 1), (2, 3))
        self.assertEqual(between(FORK, 1, 0), ())
        self.assertEqual(between(FORK, 1, 1), (1,))
        self.assertEqual(between(SPLIT, 0, 0), (0, 2))
        self.assertEqual(between(SPLIT, 1, 0), (4,))
        self.assertEqual(between(ring(5), 0, 0), (0, 1, 2, 3, 4))
        self.assertEqual(between(TWO, 0, 1), ())

    def test_followed(self):
        self.assertEqual(followed(CHAIN3, 3, 5), 4)
        self.assertEqual(followed(CHAIN3, 0, 4), 4)
        self.assertEqual(followed(CHAIN3, 4, 2), 4)
        self.assertEqual(followed(SPLIT, 3, 4), 2)
        self.assertEqual(followed(BACK, 2, 3), 0)
        self.assertEqual(followed(ring(40), 39, 2), 1)

    def test_not_following(self):
        for f, g in ((5, 3), (3, 4), (0, 1), (3, 3), (4, 5)):
            self.assertEqual(raised(followed, CHAIN3, f, g), (errors.NotFollowing, {}))

    def test_turned(self):
        self.assertEqual(turned(EMPTY), EMPTY)
        self.assertEqual(turned(CHAIN2), (2, ((0, 0), (1, 1), (1, 0)), ((0, -1, -1), (-1, 1, 2), (2, -1, -1))))
        self.assertEqual(turned(CHAIN3), (3, ((0, 0), (1, 1), (2, 2), (1, 0), (2, 0), (2, 1)),
                                          ((0, -1, -1, -1, -1, -1), (-1, 1, -1, 3, -1, -1), (-1, -1, 2, -1, 4, 5),
                                           (3, -1, -1, -1, -1, -1), (4, -1, -1, -1, -1, -1), (-1, 5, -1, 4, -1, -1))))
        self.assertEqual(turned(band(3)), (1, ((0, 0),) * 3, ((0, 1, 2), (1, 1, 2), (2, 1, 2))))

    def test_turned_facts(self):
        for world in SMALL + tuple(random_worlds(2, 20, 30)) + (band(40),):
            back = turned(world)
            self.assertIsNone(world_breach(back))
            self.assertEqual(turned(back), world)
            for f in range(len(world[1])):
                self.assertEqual(is_sure(world, f), is_wide(back, f))
                self.assertEqual(is_wide(world, f), is_sure(back, f))

    def test_sure_and_wide_change_places(self):
        self.assertEqual((is_sure(EQUALIZED, 6), is_wide(EQUALIZED, 6)), (False, True))
        self.assertEqual((is_sure(turned(EQUALIZED), 6), is_wide(turned(EQUALIZED), 6)), (True, False))

    def test_calls(self):
        check_calls(self, world_breach, {"value": CHAIN2})
        check_calls(self, world_breach, {"value": [1, [2]]})
        check_calls(self, check_world, {"value": SPLIT})
        check_calls(self, between, {"world": FORK, "x": 0, "y": 1})
        check_calls(self, followed, {"world": CHAIN3, "f": 3, "g": 5})
        check_calls(self, turned, {"world": IDLE})


if __name__ == "__main__":
    unittest.main()
