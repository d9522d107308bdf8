"""[39], [40]: fitting choices, and lots that are apart, glued, and made so."""

import itertools
import random
import unittest

from arrowworlds import errors
from arrowworlds.covers import all_books, book_of, cores, least_book
from arrowworlds.glue import fitting, glue_family, glued, glued_once, is_apart, is_glued
from arrowworlds.idles import completed, into_completed
from arrowworlds.lots import are_lot_copies, lot_breach, lot_families, lot_product, single
from arrowworlds.made import product, sum_of
from arrowworlds.moved import gathered, pulled
from arrowworlds.orders import chain_world
from arrowworlds.truths import fans
from tests.samples import (APART8, BACK, CHAIN2, CHAIN3, EMPTY, EQUALIZED, FORK, IDLE, POINT, SMALL, TWO, band,
                           check_calls, hand, null, raised, random_worlds, ring, seconds)
from tests.test_cones import CROSS, SQUARE
from tests.test_covers import EVERY, WHOLE, twin_chains, whole_fan
from tests.test_lots import FLAT, NO_LOT, constant_lot, drawn_lot, lots_over
from tests.test_truths import forest, steps

THOUSAND = (errors.TooMany, {"limit": 1000})
FORTY = (errors.TooMany, {"limit": 40})
WORLDS = SMALL + (SQUARE, CROSS) + tuple(random_worlds(390, 14, 9))
MOST_TRIES = 3000


def fitting_by_words(world, lot, fan):
    """All fitting choices, by trying out all rows of elements."""
    place = {f: k for k, f in enumerate(fan)}
    rows = itertools.product(*[range(lot[0][world[1][f][1]]) for f in fan])
    return tuple(row for row in rows
                 if all(lot[1][g][row[k]] == row[place[both]] for k, f in enumerate(fan)
                        for g, both in enumerate(world[2][f]) if both >= 0))


def many_rows(world, lot, fan):
    many = 1
    for f in fan:
        many *= lot[0][world[1][f][1]]
    return many


def given(lot, fan, k):
    return tuple(lot[1][f][k] for f in fan)


def least(covers):
    return tuple(f for f in covers[-1] if all(f in fan for fan in covers))


def glued_by_words(world, book, lot):
    """The lot glued once, from the choices told by the words."""
    covers = [least(row) for row in book]
    rows = [fitting_by_words(world, lot, fan) for fan in covers]
    moves = []
    for f, (x, y) in enumerate(world[1]):
        moved = [tuple(row[covers[x].index(world[2][f][g])] for g in covers[y]) for row in rows[x]]
        moves.append(tuple(rows[y].index(row) for row in moved))
    return (tuple(len(row) for row in rows), tuple(moves))


def is_easy(world, lot):
    """Whether all choices for all fans are told by trying out few rows."""
    return all(many_rows(world, lot, whole_fan(world, x)) <= MOST_TRIES for x in range(world[0]))


def cases(seed, many):
    """Worlds with some of their books, each with lots."""
    rng = random.Random(seed)
    for world in WORLDS:
        books = all_books(world)
        for book in rng.sample(books, min(4, len(books))):
            for lot in rng.sample(lots_over(world), min(many, len(lots_over(world)))):
                if is_easy(world, lot):
                    yield world, book, lot
    for world in FLAT:
        books = all_books(world)
        for _ in range(8):
            lot = drawn_lot(rng, world, 3)
            if is_easy(world, lot):
                yield world, rng.choice(books), lot


def answer(function, *arguments):
    """What a function returns, or None if it raises TooMany."""
    error = raised(function, *arguments)
    if error is not None:
        assert error in (FORTY, THOUSAND), error
        return None
    return function(*arguments)


class Fitting(unittest.TestCase):

    def test_by_hand(self):
        lot = ((2, 1), ((0, 1), (0,), (0, 0)))
        self.assertEqual(fitting(CHAIN2, lot, ()), ((),))
        self.assertEqual(fitting(CHAIN2, lot, (2,)), ((0,),))
        self.assertEqual(fitting(CHAIN2, lot, (0, 2)), ((0, 0), (1, 0)))
        self.assertEqual(fitting(CHAIN2, lot, (1,)), ((0,),))
        # Both arrows of a fork lead to one thing and fit one another whatever they give.
        self.assertEqual(fitting(FORK, constant_lot(FORK, 2), (2, 3)), ((0, 0), (0, 1), (1, 0), (1, 1)))
        self.assertEqual(fitting(FORK, constant_lot(FORK, 2), (0, 2, 3)), ((0, 0, 0), (1, 1, 1)))
        # The idle arrow changes 1 to 0, so that at it just 0 may stand.
        self.assertEqual(fitting(IDLE, ((2,), ((0, 1), (0, 0))), (1,)), ((0,),))
        self.assertEqual(fitting(IDLE, ((2,), ((0, 1), (0, 0))), (0, 1)), ((0, 0), (1, 0)))
        self.assertEqual(fitting(POINT, constant_lot(POINT, 0), (0,)), ())
        self.assertEqual(fitting(POINT, constant_lot(POINT, 0), ()), ((),))
        # The arrow 1 of a band is one with what follows it: only an element that all change alike may stand there.
        self.assertEqual(fitting(band(3), ((2,), ((0, 1), (0, 0), (0, 0))), (1,)), ((0,),))
        self.assertEqual(fitting(band(3), ((2,), ((0, 1), (0, 0), (0, 0))), (1, 2)), ((0, 0),))

    def test_by_trying_all_choices(self):
        seen = 0
        rng = random.Random(391)
        for world in WORLDS:
            for x in range(world[0]):
                for fan in fans(world, x):
                    for lot in rng.sample(lots_over(world), 3):
                        if many_rows(world, lot, fan) <= MOST_TRIES:
                            self.assertEqual(fitting(world, lot, fan), fitting_by_words(world, lot, fan))
                            seen += 1
        for world in FLAT:
            for _ in range(10):
                lot = drawn_lot(rng, world, 4)
                for x in range(world[0]):
                    for fan in fans(world, x):
                        self.assertEqual(fitting(world, lot, fan), fitting_by_words(world, lot, fan))
                        seen += 1
        self.assertGreater(seen, 500)

    def test_lots_over_loops(self):
        # All lots with three elements over one idle arrow, a ring, a band, and a ring beside a chain.
        for world in (IDLE, ring(3), band(3), null(3)):
            rows = list(itertools.product(range(3), repeat=3))
            for moves in itertools.product(rows, repeat=len(world[1]) - 1):
                lot = ((3,), ((0, 1, 2),) + moves)
                if lot_breach(world, lot) is None:
                    for fan in fans(world, 0):
                        self.assertEqual(fitting(world, lot, fan), fitting_by_words(world, lot, fan))

    def test_an_element_gives_a_fitting_choice(self):
        for world, _, lot in cases(392, 3):
            for x in range(world[0]):
                for fan in fans(world, x):
                    found = fitting(world, lot, fan)
                    for k in range(lot[0][x]):
                        self.assertIn(given(lot, fan, k), found)

    def test_a_whole_fan_has_as_many_as_there_are_elements(self):
        for world, _, lot in cases(393, 3):
            for x in range(world[0]):
                self.assertEqual(len(fitting(world, lot, whole_fan(world, x))), lot[0][x])

    def test_at_most_1000(self):
        three = hand(4, [(0, 1), (0, 2), (0, 3)])
        lot = ((1, 10, 10, 10), ((0,),) + (tuple(range(10)),) * 3 + ((0,),) * 3)
        found = fitting(three, lot, (4, 5, 6))
        self.assertEqual(found, tuple(itertools.product(range(10), repeat=3)))
        # 7, 11 and 13 elements: 1001 choices.
        sizes = (1, 7, 11, 13)
        lot = (sizes, tuple(tuple(range(size)) for size in sizes) + ((0,),) * 3)
        self.assertEqual(raised(fitting, three, lot, (4, 5, 6)), THOUSAND)
        self.assertEqual(len(fitting(three, lot, (4, 5))), 77)
        self.assertEqual(len(fitting(three, lot, (0, 4, 5, 6))), 1)
        wide = hand(2, [(0, 1)] * 8)
        self.assertEqual(len(fitting(wide, constant_lot(wide, 2), tuple(range(2, 10)))), 256)
        self.assertEqual(raised(fitting, wide, constant_lot(wide, 3), tuple(range(2, 10))), THOUSAND)
        self.assertEqual(len(fitting(wide, constant_lot(wide, 3), tuple(range(2, 8)))), 729)
        self.assertEqual(len(fitting(wide, constant_lot(wide, 40), tuple(range(2, 3)))), 40)
        self.assertEqual(raised(fitting, wide, constant_lot(wide, 40), (2, 3)), THOUSAND)


class Glued(unittest.TestCase):

    def test_by_hand(self):
        lot = ((2, 1), ((0, 1), (0,), (0, 0)))
        self.assertEqual((is_apart(CHAIN2, WHOLE, lot), is_glued(CHAIN2, WHOLE, lot)), (True, True))
        self.assertEqual((is_apart(CHAIN2, EVERY, lot), is_glued(CHAIN2, EVERY, lot)), (False, False))
        self.assertEqual((is_apart(CHAIN2, EVERY, constant_lot(CHAIN2, 0)),
                          is_glued(CHAIN2, EVERY, constant_lot(CHAIN2, 0))), (True, False))
        self.assertEqual(is_glued(CHAIN2, EVERY, constant_lot(CHAIN2, 1)), True)
        middle = (((0, 2), (2,)), ((1,),))
        self.assertEqual((is_apart(CHAIN2, middle, lot), is_glued(CHAIN2, middle, lot)), (False, False))
        self.assertEqual(is_glued(CHAIN2, middle, constant_lot(CHAIN2, 5)), True)
        missing = ((1, 2), ((0,), (0, 1), (1,)))
        self.assertEqual((is_apart(CHAIN2, middle, missing), is_glued(CHAIN2, middle, missing)), (True, False))
        self.assertEqual((is_apart(EMPTY, (), NO_LOT), is_glued(EMPTY, (), NO_LOT)), (True, True))

    def test_by_the_words(self):
        told = {}
        for world, book, lot in cases(394, 4):
            apart = whole = True
            for x in range(world[0]):
                for fan in book[x]:
                    rows = [given(lot, fan, k) for k in range(lot[0][x])]
                    apart = apart and len(set(rows)) == len(rows)
                    whole = whole and sorted(rows) == list(fitting_by_words(world, lot, fan))
            self.assertEqual(is_apart(world, book, lot), apart)
            self.assertEqual(is_glued(world, book, lot), whole)
            told[(apart, whole)] = told.get((apart, whole), 0) + 1
        self.assertGreater(min(told[key] for key in ((True, True), (True, False), (False, False))), 20)

    def test_the_book_of_whole_fans(self):
        for world in WORLDS:
            book = tuple((whole_fan(world, x),) for x in range(world[0]))
            for lot in lots_over(world):
                self.assertTrue(is_glued(world, book, lot))
                self.assertEqual(glued_once(world, book, lot)[0], lot[0])
                self.assertTrue(are_lot_copies(world, glued_once(world, book, lot), lot))

    def test_products_and_copies(self):
        seen = 0
        for world, book, lot in cases(395, 3):
            first = answer(glued, world, book, lot)
            if first is not None and max(first[0], default=0) <= 6:
                self.assertTrue(is_glued(world, book, first))
                self.assertTrue(is_glued(world, book, lot_product(world, first, first)))
                self.assertTrue(is_glued(world, book, turned_numbers(world, first)))
                seen += 1
        self.assertGreater(seen, 100)

    def test_too_many_for_any_cover(self):
        # Of the least cover of 0, the arrow 4 alone, there are few choices, of greater covers more than 1000.
        three = hand(4, [(0, 1), (0, 2), (0, 3)])
        book = least_book(three, (((4,),), (), ((),), ((),)))
        self.assertIn((4, 5, 6), book[0])
        self.assertEqual(min(book[0], key=len), (4,))
        sizes = (1, 1, 25, 40)
        lot = (sizes, tuple(tuple(range(size)) for size in sizes) + ((0,),) * 3)
        self.assertEqual(is_glued(three, book, lot), False)
        self.assertEqual(len(fitting(three, lot, (4, 5, 6))), 1000)
        sizes = (1, 1, 26, 40)
        more = (sizes, tuple(tuple(range(size)) for size in sizes) + ((0,),) * 3)
        self.assertEqual(raised(is_glued, three, book, more), THOUSAND)
        self.assertEqual(is_apart(three, book, more), False)
        self.assertEqual(glued_once(three, book, more)[0], (1, 1, 1, 1))
        # At the last thing of several, behind others at which the lot is not glued.
        both = sum_of(TWO, three)
        told = (((),), ((),), ((6,),), (), ((),), ((),))
        self.assertEqual(both[1][6], (2, 3))
        four = flat_lot((0, 2) + sizes, 3)
        self.assertIsNone(lot_breach(both, four))
        self.assertEqual(raised(is_glued, both, least_book(both, told), four), THOUSAND)
        self.assertEqual(is_apart(both, least_book(both, told), four), False)


def turned_numbers(world, lot):
    """A copy of the lot, whose elements have the numbers the other way round."""
    sizes, moves = lot
    return (sizes, tuple(tuple(sizes[y] - 1 - k for k in reversed(moves[f])) for f, (_, y) in enumerate(world[1])))


class GluedOnce(unittest.TestCase):

    def test_by_hand(self):
        lot = ((2, 1), ((0, 1), (0,), (0, 0)))
        self.assertEqual(glued_once(CHAIN2, WHOLE, lot), lot)
        self.assertEqual(glued_once(CHAIN2, EVERY, lot), constant_lot(CHAIN2, 1))
        self.assertEqual(glue_family(CHAIN2, EVERY, lot), ((0, 0), (0,)))
        middle = (((0, 2), (2,)), ((1,),))
        missing = ((1, 2), ((0,), (0, 1), (1,)))
        self.assertEqual(glued_once(CHAIN2, middle, missing), constant_lot(CHAIN2, 2))
        self.assertEqual(glue_family(CHAIN2, middle, missing), ((1,), (0, 1)))
        # At 0 all pairs of elements at 1 and 2.
        cross = hand(3, [(0, 1), (0, 2)])
        book = least_book(cross, (((3, 4),), (), ()))
        lot = ((2, 2, 3), ((0, 1), (0, 1), (0, 1, 2), (1, 1), (0, 2)))
        self.assertEqual(glued_once(cross, book, lot),
                         ((6, 2, 3), (tuple(range(6)), (0, 1), (0, 1, 2), (0, 0, 0, 1, 1, 1), (0, 1, 2, 0, 1, 2))))
        self.assertEqual(glue_family(cross, book, lot), ((3, 5), (0, 1), (0, 1, 2)))
        self.assertEqual(glued_once(EMPTY, (), NO_LOT), NO_LOT)
        self.assertEqual(glue_family(EMPTY, (), NO_LOT), ())
        self.assertEqual(glued(EMPTY, (), NO_LOT), NO_LOT)

    def test_by_the_words(self):
        seen = 0
        for world, book, lot in cases(401, 4):
            found = answer(glued_once, world, book, lot)
            if found is not None:
                seen += 1
                self.assertEqual(found, glued_by_words(world, book, lot))
                self.assertIsNone(lot_breach(world, found))
                family = glue_family(world, book, lot)
                covers = [least(row) for row in book]
                rows = [fitting_by_words(world, lot, fan) for fan in covers]
                self.assertEqual(family, tuple(tuple(rows[x].index(given(lot, covers[x], k)) for k in range(lot[0][x]))
                                               for x in range(world[0])))
                if answer(lot_families, world, lot, found) is not None:
                    self.assertIn(family, lot_families(world, lot, found))
        self.assertGreater(seen, 200)

    def test_once_apart_twice_glued(self):
        for world, book, lot in cases(402, 4):
            once = answer(glued_once, world, book, lot)
            if once is not None:
                self.assertTrue(is_apart(world, book, once))
                twice = answer(glued_once, world, book, once)
                self.assertEqual(answer(glued, world, book, lot), twice)
                if twice is not None:
                    self.assertTrue(is_glued(world, book, twice))
                family = glue_family(world, book, lot)
                listing = all(sorted(row) == list(range(once[0][x])) for x, row in enumerate(family))
                if answer(is_glued, world, book, lot) is not None:
                    self.assertEqual(is_glued(world, book, lot), listing)

    def test_once_is_not_always_glued(self):
        # Both arrows from 0 to 1 lead on to one arrow to 2, at which nothing is told apart any more once it is glued.
        book = book_of(EQUALIZED, (1,))
        self.assertEqual([min(row, key=len) for row in book], [(3, 4, 5), (1, 6), ()])
        lot = constant_lot(EQUALIZED, 2)
        once = glued_once(EQUALIZED, book, lot)
        self.assertEqual(once[0], (2, 2, 1))
        self.assertEqual((is_apart(EQUALIZED, book, once), is_glued(EQUALIZED, book, once)), (True, False))
        self.assertEqual(glued(EQUALIZED, book, lot)[0], (4, 2, 1))
        self.assertEqual(glued(EQUALIZED, book, lot), glued_once(EQUALIZED, book, once))
        self.assertTrue(is_glued(EQUALIZED, book, glued(EQUALIZED, book, lot)))
        # So there can be too many the second time alone.
        for size, error in ((6, None), (7, FORTY), (31, FORTY), (32, THOUSAND)):
            lot = constant_lot(EQUALIZED, size)
            self.assertEqual(glued_once(EQUALIZED, book, lot)[0], (size, size, 1))
            self.assertEqual(raised(glued, EQUALIZED, book, lot), error)
            self.assertEqual(raised(glue_family, EQUALIZED, book, lot), None)

    def test_as_many_families_as_from_the_lot(self):
        seen = 0
        for world, book, lot in cases(404, 2):
            there = answer(glued, world, book, lot)
            if there is not None:
                for other in lots_over(world)[:4]:
                    target = answer(glued, world, book, other)
                    if target is not None:
                        ours, theirs = (answer(lot_families, world, one, target) for one in (lot, there))
                        self.assertEqual(ours is None, theirs is None)
                        if ours is not None:
                            self.assertEqual(len(ours), len(theirs))
                            seen += 1
        self.assertGreater(seen, 300)

    def test_lots_over_the_part_of_the_core(self):
        seen = 0
        for world in WORLDS:
            if raised(completed, world) is not None or completed(world)[0] == 0:
                continue
            more, into = completed(world), into_completed(world)
            idles = [e for e in range(len(world[1])) if world[2][e][e] == e]
            for core in cores(world):
                part, along = part_and_map(more, [idles.index(e) for e in core])
                book = book_of(world, core)
                for lot in lots_over(part)[:4]:
                    there = answer(gathered, part, more, along, lot)
                    if there is not None:
                        found = pulled(world, more, into, there)
                        self.assertTrue(answer(is_glued, world, book, found) in (True, None))
                        back = pulled(part, more, along, there)
                        self.assertIn(answer(are_lot_copies, part, back, lot), (True, None))
                        seen += 1
        self.assertGreater(seen, 100)

    def test_the_sequence_of_errors(self):
        three = hand(4, [(0, 1), (0, 2), (0, 3)])
        book = least_book(three, (((4, 5, 6),), (), (), ()))
        for sizes, error in (((1, 2, 4, 5), None), ((1, 1, 1, 40), None), ((1, 1, 1, 0), None), ((1, 7, 3, 2), FORTY),
                             ((1, 10, 10, 10), FORTY), ((1, 7, 11, 13), THOUSAND), ((1, 2, 3, 7), FORTY),
                             ((1, 40, 40, 1), THOUSAND)):
            lot = flat_lot(sizes, 3) if 0 not in sizes else ((0, 1, 1, 0), ((), (0,), (0,), (), (), (), ()))
            for function in (glued_once, glue_family, glued):
                self.assertEqual(raised(function, three, book, lot), error, (function.__name__, sizes))
        # Above 40 at the first thing, and above 1000 at the last one.
        both = sum_of(three, three)
        sizes = (1, 7, 3, 2, 1, 7, 11, 13)
        self.assertEqual(raised(glued_once, both, least_book(both, (((8, 9, 10),), (), (), (), ((11, 12, 13),), (), (),
                                                                    ())), flat_lot(sizes, 6)), THOUSAND)
        self.assertEqual(raised(glued_once, both, least_book(both, (((8, 9, 10),), (), (), (), ((11, 12),), (), (),
                                                                    ())), flat_lot(sizes, 6)), FORTY)
        self.assertEqual(raised(glued_once, both, least_book(both, ((), (), (), (), ((11, 12),), (), (), ())),
                                flat_lot(sizes, 6)), FORTY)
        self.assertEqual(glued_once(both, least_book(both, ((), (), (), (), ((12,),), (), (), ())),
                                    flat_lot(sizes, 6))[0], (1, 7, 3, 2, 11, 1, 11, 1))


def flat_lot(sizes, arrows):
    """The lot with these sizes in which so many arrows that are not still move all to 0, each from one element."""
    return (sizes, tuple(tuple(range(size)) for size in sizes) + ((0,),) * arrows)


def part_and_map(world, things):
    """The part of the world with these things, and the map from it, told by the words of [7]."""
    kept = list(things) + [f for f in range(world[0], len(world[1])) if set(world[1][f]) <= set(things)]
    kept = list(things) + sorted(kept[len(things):], key=lambda f: (world[1][f], f))
    ends = tuple((things.index(world[1][f][0]), things.index(world[1][f][1])) for f in kept)
    table = tuple(tuple(-1 if world[2][f][g] < 0 else kept.index(world[2][f][g]) for g in kept) for f in kept)
    return (len(things), ends, table), (tuple(things), tuple(kept))


class Calls(unittest.TestCase):

    def test_calls(self):
        lot = ((2, 1), ((0, 1), (0,), (0, 0)))
        check_calls(self, fitting, {"world": CHAIN2, "lot": lot, "fan": (0, 2)})
        for function in (is_apart, is_glued, glued_once, glue_family, glued):
            check_calls(self, function, {"world": CHAIN2, "book": EVERY, "lot": lot})

    def test_how_long_it_takes(self):
        for world in random_worlds(406, 16, 14):
            for book in all_books(world)[:3]:
                for lot in lots_over(world)[1:5]:
                    self.check_all(world, book, lot, 0.1)
        for world in (forest((0,), (0, 1), (0, 1, 1)), hand(2, [(0, 1)] * 8), band(9), ring(40), APART8,
                      chain_world(8), steps(40), product(BACK, ring(10)), EQUALIZED, twin_chains(13, 13, 13),
                      twin_chains(19, 19, 1), CHAIN3, TWO):
            for book in (all_books(world)[0], all_books(world)[-1]):
                for lot in (constant_lot(world, 2), constant_lot(world, 40), single(world, 0)):
                    self.check_all(world, book, lot, 1)

    def check_all(self, world, book, lot, limit):
        for function in (is_apart, is_glued, glued_once, glue_family, glued):
            self.assertLess(seconds(function, world, book, lot), limit)
        for x in range(world[0]):
            self.assertLess(seconds(fitting, world, lot, book[x][0]), limit)


if __name__ == "__main__":
    unittest.main()
