"""[37], [38]: books of covers and cores."""

import itertools
import random
import unittest

from arrowworlds import errors
from arrowworlds.alikes import same_parts
from arrowworlds.covers import all_books, book_breach, book_of, core_of, cores, least_book
from arrowworlds.glue import fitting, glue_family, glued, glued_once, is_apart, is_glued
from arrowworlds.made import product, sum_of
from arrowworlds.orders import chain_world
from arrowworlds.truths import fan_behind, fans
from tests.samples import (APART8, BACK, CHAIN2, EMPTY, EQUALIZED, FORK, IDLE, POINT, SMALL, SPLIT, TWO,
                           WRONG_VALUES, band, check_calls, hand, null, raised, random_worlds, ring, seconds,
                           with_others)
from tests.test_cones import CROSS, SQUARE
from tests.test_truths import fans_by_words, forest, steps

FOUR_HUNDRED = (errors.TooMany, {"limit": 400})
WORLDS = SMALL + (SQUARE, CROSS) + tuple(random_worlds(370, 16, 9))


def all_fans(world):
    return [fans_by_words(world, x) for x in range(world[0])]


def whole_fan(world, x):
    return tuple(f for f, pair in enumerate(world[1]) if pair[0] == x)


def behind(world, fan, f):
    return tuple(g for g in range(len(world[1])) if world[2][f][g] >= 0 and world[2][f][g] in fan)


def breach_by_words(world, book):
    """The breach of a tuple of ascending tuples of fans."""
    things = range(world[0])
    for x in things:
        if whole_fan(world, x) not in book[x]:
            return ("whole", x)
    for x in things:
        for fan in book[x]:
            if any(behind(world, fan, f) not in book[world[1][f][1]] for f in whole_fan(world, x)):
                return ("behind", x)
    for x in things:
        for fan in fans_by_words(world, x):
            if fan not in book[x]:
                if any(all(behind(world, fan, f) in book[world[1][f][1]] for f in cover) for cover in book[x]):
                    return ("local", x)
    return None


def closed_book(world, told):
    """The least book by the rules: what is lacking is put to it, again and again."""
    every = all_fans(world)
    book = [set(row) | {whole_fan(world, x)} for x, row in enumerate(told)]
    grown = True
    while grown:
        before = sum(len(row) for row in book)
        for x in range(world[0]):
            for fan in list(book[x]):
                for f in whole_fan(world, x):
                    book[world[1][f][1]].add(behind(world, fan, f))
            for fan in every[x]:
                if any(all(behind(world, fan, f) in book[world[1][f][1]] for f in cover) for cover in book[x]):
                    book[x].add(fan)
        grown = sum(len(row) for row in book) > before
    return tuple(tuple(sorted(row)) for row in book)


def subsets(row):
    for chosen in itertools.product((False, True), repeat=len(row)):
        yield tuple(entry for entry, there in zip(row, chosen) if there)


def books_by_words(world):
    """All books, by trying out all tuples of tuples of fans."""
    rows = [list(subsets(row)) for row in all_fans(world)]
    return sorted(book for book in itertools.product(*rows) if breach_by_words(world, book) is None)


def many_tries(world):
    many = 1
    for row in all_fans(world):
        many *= 2 ** len(row)
    return many


def idles_below(world, e):
    """The idle arrows that are a.e.b for some a and b."""
    arrows, table = range(len(world[1])), world[2]
    made = {table[table[a][e]][b] for a in arrows if table[a][e] >= 0 for b in arrows if table[table[a][e]][b] >= 0}
    return {d for d in made if table[d][d] == d}


def cores_by_words(world):
    """All cores, by trying out all sets of idle arrows."""
    idles = [e for e in range(len(world[1])) if world[2][e][e] == e]
    below = {e: idles_below(world, e) for e in idles}
    return sorted(core for core in subsets(idles) if all(below[e] <= set(core) for e in core))


def drawn_told(rng, world):
    """For each thing some of its fans."""
    return tuple(tuple(sorted(rng.sample(row, rng.randrange(min(3, len(row) + 1))))) for row in all_fans(world))


# All fans are covers, and the whole ones alone are.
EVERY = ((((), (0, 2), (2,)), ((), (1,))))
WHOLE = ((((0, 2),), ((1,),)))


class Breaches(unittest.TestCase):

    def check(self, world, value, breach):
        self.assertEqual(book_breach(world, value), breach, value)

    def test_books(self):
        self.check(EMPTY, (), None)
        self.check(POINT, (((0,),),), None)
        self.check(POINT, (((), (0,)),), None)
        self.check(CHAIN2, EVERY, None)
        self.check(CHAIN2, WHOLE, None)
        self.check(CHAIN2, (((0, 2), (2,)), ((1,),)), None)
        self.check(CHAIN2, (((0, 2),), ((), (1,))), None)
        self.check(IDLE, (((0, 1), (1,)),), None)

    def test_each_word_alone(self):
        self.check(POINT, ((),), ("whole", 0))
        self.check(POINT, (((),),), ("whole", 0))
        self.check(CHAIN2, (((0, 2),), ()), ("whole", 1))
        self.check(CHAIN2, (((2,),), ((1,),)), ("whole", 0))
        # Behind the arrow 2 the empty fan is empty, too.
        self.check(CHAIN2, (((), (0, 2), (2,)), ((1,),)), ("behind", 0))
        self.check(TWO, (((0,),), ((), (1,))), None)
        # Behind the arrow 2 the empty fan is a cover, so it is to be one where (2,) is one.
        self.check(CHAIN2, (((0, 2), (2,)), ((), (1,))), ("local", 0))
        self.check(FORK, (((0, 2, 3), (2,)), ((1,),)), ("behind", 0))

    def test_several_at_once(self):
        # Whole at the last thing, behind at the first one.
        self.check(CHAIN2, (((), (0, 2)), ()), ("whole", 1))
        both = sum_of(CHAIN2, CHAIN2)
        # The arrows 4 and 5 lead from 0 to 1 and from 2 to 3.
        self.check(both, (((0, 4),), ((), (1,)), ((), (2, 5), (5,)), ((3,),)), ("behind", 2))
        self.check(both, (((0, 4), (4,)), ((), (1,)), ((2, 5), (5,)), ((), (3,))), ("local", 0))
        self.check(both, (((0, 4), (4,)), ((1,),), ((2, 5), (5,)), ((), (3,))), ("local", 2))
        self.check(both, (((0, 4), (4,)), ((), (1,)), ((), (2, 5), (5,)), ((3,),)), ("behind", 2))
        self.check(both, (((), (0, 4)), ((1,),), ((), (2, 5)), ((3,),)), ("behind", 0))
        self.check(both, (((0, 4),), ((1,),), ((),), ((),)), ("whole", 2))
        self.check(both, (((0, 4),), ((1,), ()), ((),), ((),)), ("form", -1))

    def test_against_the_words(self):
        rng = random.Random(371)
        words = {}
        for world in WORLDS:
            every = all_fans(world)
            books = all_books(world)
            for _ in range(30):
                if rng.random() < 0.5:
                    value = tuple(tuple(fan for fan in row if rng.random() < 0.6) for row in every)
                else:
                    # A book with a fan put to it or left out.
                    book = list(rng.choice(books))
                    if world[0]:
                        x = rng.randrange(world[0])
                        fan = rng.choice(every[x])
                        left = [other for other in book[x] if other != fan]
                        book[x] = tuple(sorted(left if fan in book[x] else left + [fan]))
                    value = tuple(book)
                breach = breach_by_words(world, value)
                self.check(world, value, breach)
                words[breach and breach[0]] = words.get(breach and breach[0], 0) + 1
        self.assertGreater(min(words[word] for word in (None, "whole", "behind", "local")), 10)

    def test_values_of_other_kinds(self):
        for value in with_others(EVERY):
            if repr(value) != repr(EVERY):
                found = book_breach(CHAIN2, value)
                if found != ("form", -1):
                    # A fan was left out, or one became another one.
                    self.assertTrue(all(fan in row for row, more in zip(EVERY, value) for fan in more))
                    self.assertEqual(found, breach_by_words(CHAIN2, value))
        for value in WRONG_VALUES + (list(WHOLE), WHOLE[:1], WHOLE + ((),), (WHOLE,), "12"):
            self.check(CHAIN2, value, ("form", -1))
        for value in WRONG_VALUES:
            if value != ():
                self.check(EMPTY, value, ("form", -1))
        for row in WRONG_VALUES + ([(0, 2)], "02", {(0, 2): 1}):
            if row != ():
                self.check(CHAIN2, (row, ((1,),)), ("form", -1))
        for fan in WRONG_VALUES + ([0, 2], "02", {0: 1}, (2, 0), (0,), (0, 0, 2), (0, 2, 2), (0, 1, 2), (0, 2, 3)):
            if fan != ():
                self.check(CHAIN2, ((fan,), ((1,),)), ("form", -1))
                self.check(CHAIN2, (((0, 2),), ((1,), fan)), ("form", -1))
        for entry in (True, False, None, "1", 1.0, [1], (1,), -1, 2, 3, 10 ** 30):
            self.check(CHAIN2, (((0, 2),), ((entry,),)), ("form", -1))
            self.check(CHAIN2, (((0, entry),), ((1,),)), None if entry == 2 else ("form", -1))

    def test_true_for_one(self):
        self.check(CHAIN2, (((0, 2),), ((True,),)), ("form", -1))
        self.check(POINT, (((False,),),), ("form", -1))
        self.check(POINT, (((0.0,),),), ("form", -1))

    def test_covers_doubled_and_not_ascending(self):
        self.check(CHAIN2, (((0, 2), (0, 2)), ((1,),)), ("form", -1))
        self.check(CHAIN2, (((0, 2), (2,)), ((1,), (1,))), ("form", -1))
        self.check(CHAIN2, (((2,), (0, 2)), ((1,),)), ("form", -1))
        self.check(CHAIN2, (((0, 2), ()), ((1,),)), ("form", -1))
        self.check(TWO, (((1,),), ((0,),)), ("form", -1))

    def test_too_many_ahead_of_all_else(self):
        for value in (None, ((),), 7, []):
            self.check(band(9), value, ("whole", 0) if value == ((),) else ("form", -1))
            self.assertEqual(raised(book_breach, band(10), value), FOUR_HUNDRED)
        self.assertEqual(raised(book_breach, sum_of(POINT, band(10)), None), FOUR_HUNDRED)


class TooManyFans(unittest.TestCase):

    def test_ahead_of_all_else(self):
        world = sum_of(POINT, band(10))
        arrows = tuple(range(11))
        book = (((0,),), (arrows[1:],))
        # Of 41 elements at a thing, too, and with more than 1000 fitting choices.
        lot = ((2, 40), ((0, 1), tuple(range(40))) + ((0,) * 40,) * 9)
        for function, told in ((least_book, (book,)), (all_books, ()), (cores, ()), (core_of, (book,)),
                               (book_of, ((),)), (fitting, (lot, (0,))), (is_apart, (book, lot)),
                               (is_glued, (book, lot)), (glued_once, (book, lot)), (glue_family, (book, lot)),
                               (glued, (book, lot))):
            self.assertEqual(raised(function, world, *told), FOUR_HUNDRED, function.__name__)

    def test_just_400(self):
        world = forest((0,), (0, 1), (0, 1, 1))
        self.assertEqual(len(fans(world, 0)), 400)
        whole = tuple((whole_fan(world, x),) for x in range(2))
        self.assertEqual(book_breach(world, whole), None)
        self.assertEqual(least_book(world, whole), whole)
        every = least_book(world, tuple(((),) for _ in range(2)))
        self.assertEqual([len(row) for row in every], [400, len(fans(world, 1))])
        self.assertEqual(book_breach(world, every), None)
        self.assertIn(every, all_books(world))
        self.assertIn(whole, all_books(world))


class LeastBooks(unittest.TestCase):

    def test_by_hand(self):
        self.assertEqual(least_book(EMPTY, ()), ())
        self.assertEqual(least_book(CHAIN2, ((), ())), WHOLE)
        self.assertEqual(least_book(CHAIN2, (((),), ())), EVERY)
        self.assertEqual(least_book(CHAIN2, (((2,),), ())), (((0, 2), (2,)), ((1,),)))
        self.assertEqual(least_book(CHAIN2, ((), ((),))), (((0, 2),), ((), (1,))))
        self.assertEqual(least_book(CHAIN2, (((2,),), ((),))), EVERY)
        self.assertEqual(least_book(FORK, (((2,),), ())), least_book(FORK, (((),), ())))
        self.assertEqual(least_book(IDLE, (((1,),),)), (((0, 1), (1,)),))
        self.assertEqual(least_book(ring(2), (((),),)), (((), (0, 1)),))

    def test_by_the_rules(self):
        rng = random.Random(372)
        for world in WORLDS:
            for _ in range(8):
                told = drawn_told(rng, world)
                found = least_book(world, told)
                self.assertEqual(found, closed_book(world, told))
                self.assertIsNone(book_breach(world, found))
                self.assertTrue(all(fan in row for row, more in zip(found, told) for fan in more))

    def test_it_lies_in_each_book_with_these_covers(self):
        rng = random.Random(373)
        for world in WORLDS:
            books = all_books(world)
            for _ in range(4):
                told = drawn_told(rng, world)
                found = least_book(world, told)
                for book in books:
                    has = all(fan in row for row, more in zip(book, told) for fan in more)
                    within = all(fan in row for row, more in zip(book, found) for fan in more)
                    self.assertEqual(has, within)


class Books(unittest.TestCase):

    def test_by_hand(self):
        self.assertEqual(all_books(EMPTY), ((),))
        self.assertEqual(cores(EMPTY), ((),))
        self.assertEqual(all_books(POINT), ((((), (0,)),), (((0,),),)))
        self.assertEqual(cores(POINT), ((), (0,)))
        self.assertEqual(len(all_books(CHAIN2)), 4)
        self.assertEqual(cores(CHAIN2), ((), (0,), (0, 1), (1,)))
        self.assertEqual(cores(IDLE), ((), (0, 1), (1,)))
        self.assertEqual(all_books(IDLE), ((((), (0, 1), (1,)),), (((0, 1),),), (((0, 1), (1,)),)))
        self.assertEqual(cores(BACK), ((), (0, 1)))
        # The idle arrow 2 at 0 comes from the still arrow of 1, over which it splits, and this from it.
        self.assertEqual(cores(SPLIT), ((), (0, 1, 2), (1, 2)))
        self.assertEqual(cores(ring(3)), ((), (0,)))
        self.assertEqual(cores(band(3)), ((), (0, 1, 2), (1, 2)))

    def test_by_trying_all(self):
        seen = 0
        for world in WORLDS:
            self.assertEqual(cores(world), tuple(cores_by_words(world)))
            if many_tries(world) <= 5000:
                self.assertEqual(all_books(world), tuple(books_by_words(world)))
                seen += 1
        self.assertGreater(seen, 15)

    def test_core_and_book_undo_each_other(self):
        for world in WORLDS:
            books, every = all_books(world), cores(world)
            self.assertEqual(len(books), len(every))
            self.assertEqual(list(books), sorted(set(books)))
            self.assertEqual(list(every), sorted(set(every)))
            self.assertEqual(sorted(core_of(world, book) for book in books), list(every))
            for book in books:
                self.assertIsNone(book_breach(world, book))
                self.assertEqual(breach_by_words(world, book), None)
                self.assertEqual(book_of(world, core_of(world, book)), book)
                for x in range(world[0]):
                    common = tuple(f for f in whole_fan(world, x) if all(f in fan for fan in book[x]))
                    self.assertIn(common, book[x])
                    self.assertEqual(book[x], tuple(fan for fan in fans(world, x) if set(common) <= set(fan)))
            for core in every:
                self.assertEqual(core_of(world, book_of(world, core)), core)

    def test_by_the_words(self):
        for world in WORLDS:
            table, arrows = world[2], range(len(world[1]))
            for core in cores(world):
                needed = {table[table[a][e]][b] for e in core for a in arrows if table[a][e] >= 0
                          for b in arrows if table[table[a][e]][b] >= 0}
                expected = tuple(tuple(fan for fan in row if all(f in fan for f in needed if world[1][f][0] == x))
                                 for x, row in enumerate(all_fans(world)))
                book = book_of(world, core)
                self.assertEqual(book, expected)
                self.assertEqual(core_of(world, book), tuple(e for e in arrows if table[e][e] == e and all(
                    e in fan for fan in book[world[1][e][0]])))

    def test_covers_of_one_are_covers_of_another(self):
        for world in WORLDS:
            books = all_books(world)[:30]
            for one in books:
                for other in books:
                    within = all(set(row) <= set(more) for row, more in zip(one, other))
                    self.assertEqual(within, set(core_of(world, other)) <= set(core_of(world, one)))

    def test_where_all_idle_arrows_are_still(self):
        seen = 0
        for world in WORLDS + (APART8, chain_world(5), sum_of(BACK, FORK)):
            if all(world[2][e][e] != e for e in range(world[0], len(world[1]))):
                self.assertEqual(len(all_books(world)), 2 ** len(same_parts(world)))
                seen += 1
        self.assertGreater(seen, 15)

    def test_behind_as_fan_behind(self):
        for world in WORLDS[:12]:
            for f, (x, _) in enumerate(world[1]):
                for fan in fans(world, x):
                    self.assertEqual(behind(world, fan, f), fan_behind(world, fan, f))


class Calls(unittest.TestCase):

    def test_calls(self):
        check_calls(self, book_breach, {"world": CHAIN2, "value": WHOLE})
        check_calls(self, book_breach, {"world": CHAIN2, "value": [[(0, 2)], [(1,)]]})
        check_calls(self, least_book, {"world": CHAIN2, "told": (((2,),), ())})
        check_calls(self, all_books, {"world": SPLIT})
        check_calls(self, cores, {"world": SPLIT})
        check_calls(self, core_of, {"world": CHAIN2, "book": WHOLE})
        check_calls(self, book_of, {"world": SPLIT, "core": (1, 2)})

    def test_how_long_it_takes(self):
        for world in random_worlds(374, 20, 14):
            self.check_all(world, 0.1)
        for world in (forest((0,), (0, 1), (0, 1, 1)), hand(2, [(0, 1)] * 8), band(9), ring(40), APART8,
                      chain_world(8), steps(40), null(9), product(BACK, ring(10)), EQUALIZED):
            self.check_all(world, 1)
        # Two chains of loops that end in one: some hundreds of fans of many arrows.
        self.check_all(twin_chains(13, 13, 13), 1)
        # Four things with 8 arrows each to another one.
        self.check_all(sum_of(sum_of(hand(2, [(0, 1)] * 8), hand(2, [(0, 1)] * 8)),
                              sum_of(hand(2, [(0, 1)] * 8), hand(2, [(0, 1)] * 8))), 1)

    def check_all(self, world, limit):
        every = tuple(fans(world, x) for x in range(world[0]))
        whole = tuple((whole_fan(world, x),) for x in range(world[0]))
        self.assertLess(seconds(book_breach, world, every), limit)
        self.assertLess(seconds(book_breach, world, whole), limit)
        half = tuple(row[len(row) // 2:] for row in every)
        self.assertLess(seconds(book_breach, world, half), limit)
        self.assertLess(seconds(least_book, world, every), limit)
        self.assertLess(seconds(least_book, world, whole), limit)
        self.assertLess(seconds(all_books, world), limit)
        self.assertLess(seconds(cores, world), limit)
        self.assertLess(seconds(core_of, world, every), limit)
        self.assertLess(seconds(book_of, world, ()), limit)


def twin_chains(one, two, last):
    """One thing; its loops are pairs of numbers of which the lesser of both entries counts, in two rows above one."""
    ranks = [(a, 0) for a in range(one)] + [(0, b) for b in range(1, two)]
    ranks = [(a + last, b + last) for a, b in ranks] + [(c, c) for c in range(last)]
    top = (one + last, two + last)
    every = [top] + ranks
    return (1, ((0, 0),) * len(every),
            tuple(tuple(every.index((min(a, c), min(b, d))) for c, d in every) for a, b in every))


if __name__ == "__main__":
    unittest.main()
