"""[4]: arrows that turn back, are sure, wide or idle."""

import unittest

from arrowworlds.arrows import back_of, is_idle, is_sure, is_wide
from tests.samples import (APART8, BACK, CHAIN3, EQUALIZED, FORK, IDLE, SMALL, SPLIT, band, check_calls, hand, null,
                           random_worlds, ring)

# 2 leads from 0 to 1, and 3 and 4, both from 1 to 2, make the same with it.
COMPARED = hand(3, [(0, 1), (0, 2), (1, 2), (1, 2)], {(3, 5): 4, (3, 6): 4})


def told(function, world):
    return [function(world, f) for f in range(len(world[1]))]


class Arrows(unittest.TestCase):

    def test_back_of(self):
        self.assertEqual(told(back_of, BACK), [0, 1, 3, 2])
        self.assertEqual(told(back_of, CHAIN3), [0, 1, 2, None, None, None])
        self.assertEqual(told(back_of, ring(5)), [0, 4, 3, 2, 1])
        self.assertEqual(told(back_of, IDLE), [0, None])
        self.assertEqual(told(back_of, APART8), list(range(8)))

    def test_back_on_one_side_alone_is_none(self):
        self.assertEqual(told(back_of, SPLIT), [0, 1, None, None, None])

    def test_is_sure(self):
        self.assertEqual(told(is_sure, EQUALIZED), [True] * 6 + [False])
        self.assertEqual(told(is_sure, COMPARED), [True] * 7)
        self.assertEqual(told(is_sure, SPLIT), [True, True, False, False, True])
        self.assertEqual(told(is_sure, band(3)), [True, False, False])
        self.assertEqual(told(is_sure, null(3)), [True, False, False])
        self.assertEqual(told(is_sure, IDLE), [True, False])

    def test_is_wide(self):
        self.assertEqual(told(is_wide, EQUALIZED), [True] * 7)
        self.assertEqual(told(is_wide, COMPARED), [True, True, True, False, True, True, True])
        self.assertEqual(told(is_wide, SPLIT), [True, True, False, True, False])
        self.assertEqual(told(is_wide, band(3)), [True, False, False])
        self.assertEqual(told(is_wide, null(3)), [True, False, False])
        self.assertEqual(told(is_wide, FORK), [True] * 4)

    def test_is_idle(self):
        self.assertEqual(told(is_idle, SPLIT), [True, True, True, False, False])
        self.assertEqual(told(is_idle, CHAIN3), [True, True, True, False, False, False])
        self.assertEqual(told(is_idle, BACK), [True, True, False, False])
        self.assertEqual(told(is_idle, ring(4)), [True, False, False, False])
        self.assertEqual(told(is_idle, null(3)), [True, True, False])

    def test_facts(self):
        for world in SMALL + tuple(random_worlds(3, 40, 30)):
            n, ends, table = world
            for f in range(len(ends)):
                back = back_of(world, f)
                if back is not None:
                    self.assertTrue(is_sure(world, f) and is_wide(world, f))
                    self.assertEqual(table[f][back], ends[f][0])
                    self.assertEqual(table[back][f], ends[f][1])
                left = any(0 <= table[g][f] < n for g in range(len(ends)))
                if is_sure(world, f):
                    self.assertEqual(back is not None, left)
                self.check_made(world, f)

    def check_made(self, world, f):
        for g, both in enumerate(world[2][f]):
            if both >= 0 and is_sure(world, both):
                self.assertTrue(is_sure(world, f))
            if both >= 0 and is_wide(world, both):
                self.assertTrue(is_wide(world, g))

    def test_plainly_by_the_words(self):
        for world in SMALL + tuple(random_worlds(4, 40, 20)):
            table = world[2]
            arrows = range(len(table))
            for f in arrows:
                sure = all(g == h for g in arrows for h in arrows if table[g][f] >= 0 and table[g][f] == table[h][f])
                wide = all(g == h for g in arrows for h in arrows if table[f][g] >= 0 and table[f][g] == table[f][h])
                self.assertEqual((is_sure(world, f), is_wide(world, f)), (sure, wide))

    def test_calls(self):
        for function in (back_of, is_sure, is_wide, is_idle):
            for f in range(5):
                check_calls(self, function, {"world": SPLIT, "f": f})


if __name__ == "__main__":
    unittest.main()
