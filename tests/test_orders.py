"""[6]: orders and worlds of one thing."""

import unittest

from arrowworlds import errors
from arrowworlds.orders import apart_world, chain_world, loop_world, order_world
from arrowworlds.worlds import world_breach
from tests.samples import (APART8, BACK, CHAIN2, CHAIN3, EMPTY, IDLE, POINT, WRONG_VALUES, band, check_calls, hand, null,
                           raised, ring)

FORTY = (errors.TooMany, {"limit": 40})
NOT_ORDER = (errors.NotOrder, {})
NOT_LOOPS = (errors.NotLoops, {})


def both_ways(n):
    return tuple((x, y) for x in range(n) for y in range(n) if x != y)


class Orders(unittest.TestCase):

    def test_by_hand(self):
        self.assertEqual(order_world(0, ()), EMPTY)
        self.assertEqual(order_world(1, ()), POINT)
        self.assertEqual(order_world(2, ((0, 1),)), CHAIN2)
        self.assertEqual(order_world(2, ((1, 0),)), hand(2, [(1, 0)]))
        self.assertEqual(order_world(2, ((0, 1), (1, 0))), BACK)
        self.assertEqual(order_world(3, ((0, 2), (1, 2))), hand(3, [(0, 2), (1, 2)]))
        self.assertEqual(order_world(3, ((0, 1), (2, 0), (2, 1))), hand(3, [(0, 1), (2, 0), (2, 1)], {(4, 3): 5}))
        self.assertEqual(order_world(4, ((0, 1), (0, 2), (0, 3), (1, 3), (2, 3))),
                         hand(4, [(0, 1), (0, 2), (0, 3), (1, 3), (2, 3)], {(4, 7): 6, (5, 8): 6}))

    def test_not_order(self):
        self.assertEqual(raised(order_world, 3, ((0, 1), (1, 2))), NOT_ORDER)
        self.assertEqual(raised(order_world, 3, ((1, 2), (2, 0))), NOT_ORDER)
        self.assertEqual(raised(order_world, 3, ((0, 1), (1, 0), (1, 2))), NOT_ORDER)
        self.assertEqual(raised(order_world, 3, ((0, 1), (1, 2), (2, 0))), NOT_ORDER)
        self.assertIsNone(raised(order_world, 3, ((0, 1), (0, 2), (1, 2))))

    def test_not_order_comes_ahead_of_too_many(self):
        pairs = tuple(pair for pair in both_ways(8) if pair != (3, 5))
        self.assertEqual(raised(order_world, 8, pairs), NOT_ORDER)

    def test_all_pairs(self):
        for n in range(7):
            world = order_world(n, both_ways(n))
            self.assertIsNone(world_breach(world))
            self.assertEqual(len(world[1]), n * n)
        self.assertEqual(raised(order_world, 7, both_ways(7)), FORTY)
        self.assertEqual(raised(order_world, 8, both_ways(8)), FORTY)

    def test_forty_arrows(self):
        # Six things that lead to one another, and two more: 30 and 2 pairs beside 8 things.
        self.assertEqual(len(order_world(8, both_ways(6) + ((6, 7), (7, 6)))[1]), 40)
        # 34 pairs: four things that lead to one another and to four others, of which three do so.
        pairs = tuple((x, y) for x in range(4) for y in range(4, 8))
        pairs += both_ways(4) + tuple((x + 4, y + 4) for x, y in both_ways(3))
        self.assertEqual(raised(order_world, 8, tuple(sorted(pairs))), FORTY)

    def test_chains(self):
        self.assertEqual(chain_world(0), EMPTY)
        self.assertEqual(chain_world(1), POINT)
        self.assertEqual(chain_world(2), CHAIN2)
        self.assertEqual(chain_world(3), CHAIN3)
        eight = chain_world(8)
        self.assertEqual((eight[0], len(eight[1]), world_breach(eight)), (8, 36, None))
        self.assertEqual(eight[1][8:], tuple((x, y) for x in range(8) for y in range(x + 1, 8)))

    def test_apart(self):
        self.assertEqual(apart_world(0), EMPTY)
        self.assertEqual(apart_world(1), POINT)
        self.assertEqual(apart_world(8), APART8)


class Loops(unittest.TestCase):

    def check_not(self, rows):
        self.assertEqual(raised(loop_world, rows), NOT_LOOPS, rows)

    def test_by_hand(self):
        self.assertEqual(loop_world(((0,),)), POINT)
        self.assertEqual(loop_world(((0, 1), (1, 1))), IDLE)
        self.assertEqual(loop_world(((0, 1, 2), (1, 1, 1), (2, 2, 2))), band(3))
        self.assertEqual(loop_world(((0, 1, 2), (1, 2, 0), (2, 0, 1))), ring(3))

    def test_forty(self):
        for world in (ring(40), band(40), null(40)):
            self.assertEqual(loop_world(world[2]), world)

    def test_number_of_rows(self):
        self.check_not(())
        self.check_not(ring(41)[2])

    def test_zero_changes_something(self):
        self.check_not(((1,),))
        self.check_not(((1, 1), (1, 1)))
        self.check_not(((0, 1), (0, 1)))
        self.check_not(((0, 0), (1, 1)))

    def test_sequence_matters(self):
        self.check_not(((0, 1, 2), (1, 2, 2), (2, 1, 2)))
        self.check_not(((0, 1, 2), (1, 1, 1), (2, 2, 1)))

    def test_other_values(self):
        rows = ring(2)[2]
        for value in WRONG_VALUES + ((rows,), list(rows), rows[:1], rows + rows[:1]):
            self.check_not(value)
        for row in WRONG_VALUES + ([1, 0], (1,), (1, 0, 0), ((1, 0),)):
            self.check_not((rows[0], row))
            self.check_not((row, rows[1]))
            self.check_not((row,))
        for entry in (None, True, False, "0", 0.0, [0], (0,), -1, 2, 10 ** 30):
            self.check_not(((0, 1), (1, entry)))
            self.check_not(((entry, 1), (1, 0)))
            self.check_not(((0, 1), (entry, 1)))
        self.check_not(((False,),))


class Calls(unittest.TestCase):

    def test_calls(self):
        check_calls(self, order_world, {"n": 3, "pairs": ((0, 1), (0, 2), (1, 2))})
        check_calls(self, chain_world, {"n": 4})
        check_calls(self, apart_world, {"n": 4})
        check_calls(self, loop_world, {"rows": ((0, 1), (1, 0))})


if __name__ == "__main__":
    unittest.main()
