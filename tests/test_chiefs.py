"""The chief arrows, of which all arrows of a world are made."""

import unittest

from arrowworlds.chiefs import chiefs_of, made_arrows, reached_with
from tests.samples import BACK, CHAIN3, EMPTY, EQUALIZED, SMALL, SPLIT, TWO, band, null, random_worlds, ring


class Chiefs(unittest.TestCase):

    def test_by_hand(self):
        self.assertEqual(chiefs_of(EMPTY), [])
        self.assertEqual(chiefs_of(TWO), [0, 1])
        self.assertEqual(chiefs_of(CHAIN3), [0, 1, 2, 3, 5])
        self.assertEqual(chiefs_of(EQUALIZED), [0, 1, 2, 6, 3, 4])
        self.assertEqual(chiefs_of(SPLIT), [0, 1, 3, 4])
        self.assertEqual(chiefs_of(BACK), [0, 1, 2, 3])
        self.assertEqual(chiefs_of(ring(7)), [0, 1])
        self.assertEqual(chiefs_of(band(4)), [0, 1, 2, 3])
        self.assertEqual(chiefs_of(null(4)), [0, 2, 3])

    def test_made_arrows(self):
        self.assertEqual(sorted(made_arrows(CHAIN3)), [4])
        self.assertEqual(sorted(made_arrows(band(3))), [])

    def test_reached_with(self):
        self.assertEqual(sorted(reached_with(ring(6), [0], 2)), [0, 2, 4])
        self.assertEqual(sorted(reached_with(CHAIN3, [0, 1, 2, 3], 5)), [0, 1, 2, 3, 4, 5])

    def test_they_make_all_arrows(self):
        for world in SMALL + tuple(random_worlds(20, 40, 40)):
            reached = list(range(world[0]))
            for f in chiefs_of(world):
                reached = reached_with(world, reached, f)
            self.assertEqual(sorted(reached), list(range(len(world[1]))))


if __name__ == "__main__":
    unittest.main()
