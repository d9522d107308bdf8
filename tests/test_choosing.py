"""The search for rows of values that fit, by which families of all sorts are found."""

import itertools
import random
import unittest

from arrowworlds import errors
from arrowworlds.bits import mask_of
from arrowworlds.choosing import all_rows, count_rows, rows_told, search_by
from tests.samples import raised, seconds


def rows_by_words(choices, ties):
    rows = itertools.product(*choices)
    return [row for row in rows if all(left[row[i]] == right[row[j]] for i, j, left, right in ties)]


def drawn(rng, places, many):
    choices = [sorted(rng.sample(range(6), rng.randrange(1, 5))) for _ in range(places)]
    ties = []
    for _ in range(many):
        shades = rng.randrange(1, 4)
        left, right = ([rng.randrange(shades) for _ in range(6)] for _ in range(2))
        ties.append((rng.randrange(places), rng.randrange(places), left, right))
    return choices, ties


SAME = list(range(40))
ALL = [0] * 40


class Rows(unittest.TestCase):

    def check(self, choices, ties, most=1000):
        masks = [mask_of(row) for row in choices]
        expected = rows_by_words(choices, ties)
        if len(expected) > most:
            self.assertEqual(raised(all_rows, masks, ties, most), (errors.TooMany, {"limit": most}))
            self.assertEqual(raised(count_rows, masks, ties, most), (errors.TooMany, {"limit": most}))
        else:
            self.assertEqual(all_rows(masks, ties, most), expected)
            self.assertEqual(count_rows(masks, ties, most), len(expected))

    def test_drawn(self):
        rng = random.Random(60)
        for _ in range(400):
            choices, ties = drawn(rng, rng.randrange(1, 6), rng.randrange(8))
            self.check(choices, ties, rng.choice([0, 3, 20, 1000]))

    def test_none(self):
        self.check([], [])
        self.check([[]], [])
        self.check([[1, 2], []], [])
        self.check([[0, 1]], [(0, 0, [0, 1], [1, 0])])

    def test_at_most(self):
        self.check([[0, 1, 2]] * 3, [], 27)
        self.check([[0, 1, 2]] * 3, [], 26)
        self.check([[0, 1, 2]] * 3, [(0, 1, SAME, SAME)], 9)
        self.check([[0, 1, 2]] * 3, [(0, 1, SAME, SAME)], 8)

    def test_too_many_of_some_and_none_of_others(self):
        # Three places that are to be unlike in a circle, though they have two values.
        odd = [(i, j, [0, 1], [1, 0]) for i, j in ((0, 1), (1, 2), (0, 2))]
        free = [(1 << 40) - 1] * 8
        self.assertEqual(all_rows([3, 3, 3] + free, odd, 1000), [])
        self.assertEqual(count_rows([3, 3, 3] + free, odd, 1000), 0)
        # A free place that is tied to all makes no difference.
        tied = [(k, 11, ALL, ALL) for k in range(11)]
        self.assertEqual(all_rows([3, 3, 3] + free + [3], odd + tied, 1000), [])
        halves = [(k, 11, [v % 2 for v in range(40)], SAME) for k in range(3, 11)]
        self.assertEqual(all_rows([3, 3, 3] + free + [3], odd + halves, 1000), [])

    def test_rows_that_narrow_late(self):
        # Each place goes with the halves of the next one, so that the last one tells the first one.
        half = [v // 2 for v in range(40)]
        row = [(k, k + 1, [v % 20 for v in range(40)], half) for k in range(7)]
        every = [(1 << 40) - 1] * 8
        self.assertEqual(raised(all_rows, every, row, 1000), (errors.TooMany, {"limit": 1000}))
        last = row + [(7, 7, SAME, [41] * 40)]
        self.assertEqual(all_rows(every, last, 1000), [])
        star = [(0, k, [v // 5 for v in range(40)], [v % 8 for v in range(40)]) for k in range(1, 8)]
        self.assertEqual(raised(all_rows, every, star, 1000), (errors.TooMany, {"limit": 1000}))
        self.assertEqual(all_rows(every[:7] + [0], star, 1000), [])
        self.assertLess(seconds(all_rows, every, last, 1000), 1)

    def test_many_places(self):
        # A row of 300 places of which all have the value of the first one.
        ties = [(k, k + 1, SAME, SAME) for k in range(299)]
        self.assertEqual(all_rows([7] * 300, ties, 1000), [(v,) * 300 for v in range(3)])
        # In a row of 300 places each may keep the value of the one ahead or take 1 for 0.
        steps = [(k, k + 1, [0, 1, 1, 1], [0, 1, 0, 1]) for k in range(100)]
        self.assertEqual(raised(all_rows, [15] * 101, steps, 1000), (errors.TooMany, {"limit": 1000}))
        ten = [1] * 290 + [3] * 9 + [1]
        self.assertEqual(len(all_rows(ten, [], 1000)), 512)
        self.assertLess(seconds(all_rows, ten, [], 1000), 1)

    def test_trees(self):
        tree = search_by([3, 3, 4], [(0, 1, SAME, SAME)], 1000).whole_tree()
        self.assertEqual((tree[0], tree[1]), (2, {2: 2}))
        rows = sorted(tuple(row[k] for k in range(3)) for row in rows_told(tree))
        self.assertEqual(rows, [(0, 0, 2), (1, 1, 2)])

    def test_arguments_stay(self):
        choices, ties = [3, 3], [(0, 1, [0, 1], [1, 0]), (0, 0, [0, 1], [0, 1])]
        before = repr((choices, ties))
        self.assertEqual(all_rows(choices, ties, 5), [(0, 1), (1, 0)])
        self.assertEqual(repr((choices, ties)), before)


if __name__ == "__main__":
    unittest.main()
