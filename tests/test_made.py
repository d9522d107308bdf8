"""[7] with [2]: products, sums, parts and other numberings."""

import unittest

from arrowworlds import errors
from arrowworlds.made import part_of, product, renumbered, sum_of
from arrowworlds.worlds import turned, world_breach
from tests.samples import (APART8, BACK, CHAIN2, CHAIN3, EMPTY, FORK, IDLE, POINT, SMALL, SPLIT, TWO, check_calls, hand,
                           loops, raised, random_worlds, ring)

EIGHT = (errors.TooMany, {"limit": 8})
FORTY = (errors.TooMany, {"limit": 40})


def apart(n):
    return hand(n, [])


class Products(unittest.TestCase):

    def test_square(self):
        expected = hand(4, [(0, 1), (0, 2), (0, 3), (1, 3), (2, 3)], {(4, 7): 6, (5, 8): 6})
        self.assertEqual(product(CHAIN2, CHAIN2), expected)

    def test_loops_and_fork(self):
        expected = hand(2, [(0, 0), (0, 1), (0, 1), (0, 1), (0, 1), (1, 1)],
                        {(2, 2): 0, (2, 3): 5, (2, 4): 6, (2, 5): 3, (2, 6): 4,
                         (3, 7): 5, (4, 7): 6, (5, 7): 3, (6, 7): 4, (7, 7): 1})
        self.assertEqual(product(ring(2), FORK), expected)

    def test_fork_and_loops(self):
        expected = hand(2, [(0, 0), (0, 1), (0, 1), (0, 1), (0, 1), (1, 1)],
                        {(2, 2): 0, (2, 3): 4, (2, 4): 3, (2, 5): 6, (2, 6): 5,
                         (3, 7): 4, (4, 7): 3, (5, 7): 6, (6, 7): 5, (7, 7): 1})
        self.assertEqual(product(FORK, ring(2)), expected)

    def test_two_loops(self):
        # The arrows are (0, 0), (0, 1), (1, 0), (1, 1), (2, 0), (2, 1).
        self.assertEqual(product(ring(3), ring(2)),
                         loops([[0, 1, 2, 3, 4, 5], [1, 0, 3, 2, 5, 4], [2, 3, 4, 5, 0, 1],
                                [3, 2, 5, 4, 1, 0], [4, 5, 0, 1, 2, 3], [5, 4, 1, 0, 3, 2]]))

    def test_idle_beside_chain(self):
        # Loops at 0 and at 1, named (1, 0) and (1, 1), and two arrows between, named (0, 2) and (1, 2).
        expected = hand(2, [(0, 0), (0, 1), (0, 1), (1, 1)],
                        {(2, 2): 2, (2, 3): 4, (2, 4): 4, (3, 5): 4, (4, 5): 4, (5, 5): 5})
        self.assertEqual(product(IDLE, CHAIN2), expected)

    def test_nothing(self):
        self.assertEqual(product(EMPTY, EMPTY), EMPTY)
        self.assertEqual(product(EMPTY, CHAIN3), EMPTY)
        self.assertEqual(product(SPLIT, EMPTY), EMPTY)

    def test_one_thing_changes_nothing(self):
        for world in SMALL:
            self.assertEqual(product(world, POINT), world)
            self.assertEqual(product(POINT, world), world)

    def test_just_let(self):
        self.assertEqual(product(TWO, apart(4)), APART8)
        made = product(ring(5), ring(8))
        self.assertEqual((made[0], len(made[1]), world_breach(made)), (1, 40, None))

    def test_too_many(self):
        self.assertEqual(raised(product, apart(3), apart(3)), EIGHT)
        self.assertEqual(raised(product, TWO, apart(5)), EIGHT)
        self.assertEqual(raised(product, ring(6), ring(7)), FORTY)
        self.assertEqual(raised(product, CHAIN2, ring(14)), FORTY)
        self.assertIsNone(raised(product, CHAIN2, ring(13)))
        self.assertEqual(raised(product, sum_of(ring(9), TWO), CHAIN3), EIGHT)

    def test_turned(self):
        for one in random_worlds(5, 5, 6):
            for other in random_worlds(6, 5, 6):
                if one[0] * other[0] <= 8:
                    made = product(one, other)
                    self.assertIsNone(world_breach(made))
                    self.assertEqual(len(made[1]), len(one[1]) * len(other[1]))
                    self.assertIsNone(world_breach(product(turned(one), turned(other))))


class Sums(unittest.TestCase):

    def test_by_hand(self):
        self.assertEqual(sum_of(ring(2), CHAIN2), hand(3, [(0, 0), (1, 2)], {(3, 3): 0}))
        self.assertEqual(sum_of(CHAIN2, ring(2)), hand(3, [(0, 1), (2, 2)], {(4, 4): 2}))
        self.assertEqual(sum_of(FORK, SPLIT),
                         hand(4, [(0, 1), (0, 1), (2, 2), (2, 3), (3, 2)],
                              {(6, 6): 6, (6, 7): 7, (7, 8): 6, (8, 6): 8, (8, 7): 3}))
        self.assertEqual(sum_of(SPLIT, FORK),
                         hand(4, [(0, 0), (0, 1), (1, 0), (2, 3), (2, 3)],
                              {(4, 4): 4, (4, 5): 5, (5, 6): 4, (6, 4): 6, (6, 5): 1}))

    def test_nothing(self):
        self.assertEqual(sum_of(EMPTY, EMPTY), EMPTY)
        for world in SMALL:
            self.assertEqual(sum_of(EMPTY, world), world)
            self.assertEqual(sum_of(world, EMPTY), world)

    def test_just_let(self):
        self.assertEqual(sum_of(apart(3), apart(5)), APART8)
        self.assertEqual(len(sum_of(ring(20), ring(20))[1]), 40)

    def test_too_many(self):
        self.assertEqual(raised(sum_of, APART8, POINT), EIGHT)
        self.assertEqual(raised(sum_of, ring(20), ring(21)), FORTY)
        self.assertEqual(raised(sum_of, sum_of(apart(7), ring(20)), sum_of(POINT, ring(30))), EIGHT)
        self.assertEqual(raised(sum_of, POINT, ring(40)), FORTY)

    def test_turned(self):
        for one in random_worlds(7, 6, 8):
            for other in random_worlds(8, 6, 8):
                if one[0] + other[0] <= 8:
                    self.assertIsNone(world_breach(sum_of(one, other)))


class Parts(unittest.TestCase):

    def test_by_hand(self):
        self.assertEqual(part_of(SPLIT, (0,)), IDLE)
        self.assertEqual(part_of(SPLIT, (1,)), POINT)
        self.assertEqual(part_of(CHAIN3, (0, 2)), CHAIN2)
        self.assertEqual(part_of(sum_of(CHAIN2, BACK), (1, 2, 3)), hand(3, [(1, 2), (2, 1)], {(3, 4): 1, (4, 3): 2}))
        self.assertEqual(part_of(sum_of(FORK, ring(2)), (0, 2)), hand(2, [(1, 1)], {(2, 2): 1}))

    def test_none_and_all(self):
        for world in SMALL:
            self.assertEqual(part_of(world, ()), EMPTY)
            self.assertEqual(part_of(world, tuple(range(world[0]))),
                             renumbered(world, tuple(range(world[0]))))

    def test_numbering(self):
        # The arrows of a world may stand in any sequence; those of a part are ordered by their ends.
        mixed = hand(3, [(1, 2), (0, 2), (0, 1), (0, 1)], {(5, 3): 4, (6, 3): 4})
        self.assertEqual(part_of(mixed, (0, 1, 2)),
                         hand(3, [(0, 1), (0, 1), (0, 2), (1, 2)], {(3, 6): 5, (4, 6): 5}))
        self.assertEqual(part_of(mixed, (0, 1)), FORK)


class Renumbered(unittest.TestCase):

    def test_by_hand(self):
        self.assertEqual(renumbered(SPLIT, (1, 0)),
                         hand(2, [(0, 1), (1, 0), (1, 1)], {(2, 3): 0, (2, 4): 2, (3, 2): 4, (4, 3): 3, (4, 4): 4}))
        self.assertEqual(renumbered(CHAIN3, (2, 0, 1)), hand(3, [(1, 0), (1, 2), (2, 0)], {(4, 5): 3}))
        self.assertEqual(renumbered(FORK, (1, 0)), hand(2, [(1, 0), (1, 0)]))
        self.assertEqual(renumbered(EMPTY, ()), EMPTY)

    def test_thing_k_is_the_thing_told(self):
        world = sum_of(ring(3), sum_of(ring(2), POINT))
        made = renumbered(world, (1, 2, 0))
        self.assertEqual(made, sum_of(ring(2), sum_of(POINT, ring(3))))

    def test_back_again(self):
        for world in random_worlds(9, 30, 20):
            n = world[0]
            first = renumbered(world, tuple(range(n)))
            there = renumbered(first, tuple(reversed(range(n))))
            self.assertIsNone(world_breach(there))
            self.assertEqual(part_of(there, tuple(range(n))), there)
            self.assertEqual(sorted(there[1]), sorted([(n - 1 - x, n - 1 - y) for x, y in first[1]]))


class Calls(unittest.TestCase):

    def test_calls(self):
        check_calls(self, product, {"one": ring(2), "other": FORK})
        check_calls(self, sum_of, {"one": ring(2), "other": FORK})
        check_calls(self, part_of, {"world": CHAIN3, "things": (0, 2)})
        check_calls(self, renumbered, {"world": CHAIN3, "things": (2, 0, 1)})


if __name__ == "__main__":
    unittest.main()
