"""The search for maps and copies, by choices that the functions of the interface do not give it."""

import unittest

from arrowworlds.leading import Leading, narrowest, settled_at
from tests.samples import CHAIN2, EMPTY, FORK, IDLE, POINT, TWO, hand, null, ring


class Searches(unittest.TestCase):

    def found(self, one, other, strict, choices, most=1000):
        return sorted(Leading(one, other, strict).found(choices, most))

    def test_narrowest(self):
        self.assertIsNone(narrowest([[1], [0]], [0, 1]))
        self.assertIsNone(narrowest([[1], [0, 2], [0]], [0, 2]))
        self.assertIsNone(narrowest([], []))
        self.assertEqual(narrowest([[1], [0, 1, 2], [0, 1], [0, 1]], [0, 1, 2, 3]), 2)
        self.assertEqual(narrowest([[1], [0, 1, 2], [0, 1], [0, 1]], [3, 2]), 3)
        self.assertEqual(settled_at([[1], [0, 1], [2]], 1, 0), [[1], [0], [2]])

    def test_two_arrows_to_one(self):
        self.assertEqual(self.found(FORK, FORK, False, [[0], [1], [2], [2]]), [(0, 1, 2, 2)])
        self.assertEqual(self.found(FORK, FORK, True, [[0], [1], [2], [2]]), [])
        self.assertEqual(self.found(FORK, FORK, True, [[0], [1], [2, 3], [2]]), [(0, 1, 3, 2)])

    def test_choices_are_kept_to(self):
        self.assertEqual(self.found(ring(4), ring(4), False, [[0], [1, 2], [0, 1, 2, 3], [0, 1, 2, 3]]),
                         [(0, 1, 2, 3), (0, 2, 0, 2)])
        self.assertEqual(self.found(ring(4), ring(4), False, [[0], [1, 2], [2, 3], [0, 1, 2, 3]]), [(0, 1, 2, 3)])
        self.assertEqual(self.found(ring(4), ring(4), False, [[0], [1, 2], [3], [0, 1, 2, 3]]), [])
        self.assertEqual(self.found(POINT, IDLE, False, [[0, 1]]), [(0,), (1,)])

    def test_no_choice(self):
        self.assertEqual(self.found(POINT, EMPTY, False, [[]]), [])
        self.assertEqual(self.found(CHAIN2, CHAIN2, False, [[0], [], [2]]), [])
        self.assertEqual(self.found(EMPTY, TWO, False, []), [()])

    def test_strict_ones_do_not_make_ends_meet(self):
        apart, meeting = hand(4, [(0, 1), (2, 3)]), CHAIN2
        choices = [[0], [1], [0], [1], [2], [2]]
        self.assertEqual(self.found(apart, meeting, False, choices), [(0, 1, 0, 1, 2, 2)])
        self.assertEqual(self.found(TWO, IDLE, False, [[0], [1]]), [(0, 1)])
        self.assertEqual(self.found(TWO, IDLE, True, [[0], [1]]), [])

    def test_it_stops_behind_one_more_than_most(self):
        every = [[0]] + [list(range(5))] * 4
        self.assertEqual(len(self.found(null(5), null(5), False, every)), 65)
        self.assertEqual(len(self.found(null(5), null(5), False, every, 64)), 65)
        self.assertEqual(len(self.found(null(5), null(5), False, every, 63)), 64)
        self.assertEqual(len(self.found(null(5), null(5), False, every, 0)), 1)

    def test_choices_stay_as_they_are(self):
        choices = [[0], [1, 2], [0, 1, 2, 3], [0, 1, 2, 3]]
        before = repr(choices)
        self.found(ring(4), ring(4), False, choices)
        self.assertEqual(repr(choices), before)


if __name__ == "__main__":
    unittest.main()
