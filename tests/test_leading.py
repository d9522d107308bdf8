"""The search for maps and copies, by choices that the functions of the interface do not give it."""

import unittest

from arrowworlds.bits import bits_of, many_in, mask_of
from arrowworlds.choices import narrowest, settled_at, settled_places
from arrowworlds.leading import Leading, landing_of
from tests.samples import CHAIN2, EMPTY, FORK, IDLE, POINT, TWO, hand, null, ring


def masks(rows):
    return [mask_of(row) for row in rows]


class Searches(unittest.TestCase):

    def found(self, one, other, strict, rows, most=1000):
        choices = masks(rows)
        return sorted(Leading(one, landing_of(other), strict).found(choices, settled_places(choices), most, None))

    def test_bits(self):
        self.assertEqual(bits_of(0), [])
        self.assertEqual(bits_of(0b101001), [0, 3, 5])
        self.assertEqual(bits_of(1 << 39), [39])
        self.assertEqual(mask_of([]), 0)
        self.assertEqual(mask_of([3, 0, 5, 3]), 0b101001)
        self.assertEqual([many_in(mask) for mask in (0, 1, 2, 3, 0b101001, (1 << 40) - 1)], [0, 1, 1, 2, 3, 40])

    def test_narrowest(self):
        self.assertIsNone(narrowest(masks([[1], [0]]), [0, 1]))
        self.assertIsNone(narrowest(masks([[1], [0, 2], [0]]), [0, 2]))
        self.assertIsNone(narrowest([], []))
        self.assertEqual(narrowest(masks([[1], [0, 1, 2], [0, 1], [0, 1]]), [0, 1, 2, 3]), 2)
        self.assertEqual(narrowest(masks([[1], [0, 1, 2], [0, 1], [0, 1]]), [3, 2]), 3)
        self.assertEqual(settled_at(masks([[1], [0, 1], [2]]), 1, 0), masks([[1], [0], [2]]))
        self.assertEqual(settled_places(masks([[1], [0, 1], [2]])), [0, 2])

    def test_two_arrows_to_one(self):
        self.assertEqual(self.found(FORK, FORK, False, [[0], [1], [2], [2]]), [(0, 1, 2, 2)])
        self.assertEqual(self.found(FORK, FORK, True, [[0], [1], [2], [2]]), [])
        self.assertEqual(self.found(FORK, FORK, True, [[0], [1], [2, 3], [2]]), [(0, 1, 3, 2)])

    def test_choices_are_kept_to(self):
        self.assertEqual(self.found(ring(4), ring(4), False, [[0], [1, 2], [0, 1, 2, 3], [0, 1, 2, 3]]),
                         [(0, 1, 2, 3), (0, 2, 0, 2)])
        self.assertEqual(self.found(ring(4), ring(4), False, [[0], [1, 2], [2, 3], [0, 1, 2, 3]]), [(0, 1, 2, 3)])
        self.assertEqual(self.found(ring(4), ring(4), False, [[0], [1, 2], [3], [0, 1, 2, 3]]), [])
        self.assertEqual(self.found(POINT, IDLE, False, [[0, 1]]), [(0,), (1,)])

    def test_no_choice(self):
        self.assertEqual(self.found(POINT, EMPTY, False, [[]]), [])
        self.assertEqual(self.found(CHAIN2, CHAIN2, False, [[0], [], [2]]), [])
        self.assertEqual(self.found(EMPTY, TWO, False, []), [()])

    def test_strict_ones_do_not_lead_two_to_one(self):
        apart, meeting = hand(4, [(0, 1), (2, 3)]), CHAIN2
        choices = [[0], [1], [0], [1], [2], [2]]
        self.assertEqual(self.found(apart, meeting, False, choices), [(0, 1, 0, 1, 2, 2)])
        self.assertEqual(self.found(apart, meeting, True, choices), [])

    def test_it_stops_behind_one_more_than_most(self):
        every = [[0]] + [list(range(5))] * 4
        self.assertEqual(len(self.found(null(5), null(5), False, every)), 65)
        self.assertEqual(len(self.found(null(5), null(5), False, every, 64)), 65)
        self.assertEqual(len(self.found(null(5), null(5), False, every, 63)), 64)
        self.assertEqual(len(self.found(null(5), null(5), False, every, 0)), 1)

    def test_choices_stay_as_they_are(self):
        choices = masks([[0], [1, 2], [0, 1, 2, 3], [0, 1, 2, 3]])
        before = repr(choices)
        Leading(ring(4), landing_of(ring(4)), False).found(choices, [0], 1000, None)
        self.assertEqual(repr(choices), before)

    def test_patience(self):
        # Each of the arrows 1 to 6 leads to a dead end.
        choices = masks([[0], list(range(7))])
        search = Leading(ring(2), landing_of(ring(7)), False)
        self.assertEqual(search.found(choices, [0], 1000, None), [(0, 0)])
        self.assertEqual(search.found(choices, [0], 1000, 6), [(0, 0)])
        self.assertIsNone(search.found(choices, [0], 1000, 5))
        self.assertEqual(search.found(choices, [0], 0, 0), [(0, 0)])


if __name__ == "__main__":
    unittest.main()
