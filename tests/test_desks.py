"""[48]: deeds and desks."""

import inspect
import random
import unittest

from arrowworlds import desks, errors
from arrowworlds.alikes import skeleton
from arrowworlds.backturns import fraction_breach, turned_back
from arrowworlds.desks import Desk, done
from arrowworlds.idles import completed
from arrowworlds.joins import joined
from arrowworlds.made import part_of, product, renumbered, sum_of
from arrowworlds.orders import apart_world, chain_world
from arrowworlds.worlds import turned, world_breach
from tests.samples import (APART8, BACK, CHAIN2, CHAIN3, EMPTY, FORK, IDLE, POINT, SMALL, SPLIT, TWO, WRONG_VALUES,
                           band, check_calls, hand, is_plain, raised, random_worlds, ring, seconds, with_others)

NO_DEED = (errors.NotDeed, {})
NOT_DONE = (errors.NotDone, {})
NOT_UNDONE = (errors.NotUndone, {})
WORLDS = SMALL + tuple(random_worlds(480, 10, 9))
WORDS = ("turn", "times", "beside", "part", "list", "join", "skeleton", "complete", "back")


def too_many(limit):
    return (errors.TooMany, {"limit": limit})


def made_by_words(world, deed):
    """The world behind a deed, or None if making it raises an error."""
    made = {"turn": turned, "times": product, "beside": sum_of, "part": part_of, "list": renumbered, "join": joined,
            "skeleton": skeleton, "complete": completed, "back": turned_back}[deed[0]]
    try:
        return made(world, *deed[1:])
    except errors.WorldError:
        return None


def drawn_deed(rng, world):
    """A deed for the world by its form; it may be that it makes no world."""
    n, ends, _ = world
    word = rng.choice(WORDS)
    if word in ("times", "beside"):
        return (word, rng.choice((POINT, CHAIN2, TWO, ring(2), IDLE, EMPTY)))
    if word == "part":
        return (word, tuple(x for x in range(n) if rng.random() < 0.8))
    if word == "list":
        return (word, tuple(rng.sample(range(n), n)))
    if word == "join":
        pairs = [(f, g) for f in range(len(ends)) for g in range(len(ends)) if ends[f] == ends[g]]
        return (word, tuple(rng.choice(pairs) for _ in range(rng.randrange(3) if pairs else 0)))
    if word == "back":
        kind = set(range(n)) | {f for f in range(len(ends)) if rng.random() < 0.3}
        return (word, tuple(sorted(kind)))
    return (word,)


def drawn_good_deed(rng, world):
    while True:
        deed = drawn_deed(rng, world)
        if made_by_words(world, deed) is not None:
            return deed


class Done(unittest.TestCase):

    def test_the_nine_deeds(self):
        self.assertEqual(done(CHAIN2, ("turn",)), turned(CHAIN2))
        self.assertEqual(done(CHAIN2, ("times", ring(2))), product(CHAIN2, ring(2)))
        self.assertEqual(done(CHAIN2, ("beside", POINT)), sum_of(CHAIN2, POINT))
        self.assertNotEqual(sum_of(CHAIN2, POINT), sum_of(POINT, CHAIN2))
        self.assertEqual(done(CHAIN3, ("part", (0, 2))), CHAIN2)
        self.assertEqual(done(CHAIN3, ("part", ())), EMPTY)
        self.assertEqual(done(CHAIN2, ("list", (1, 0))), hand(2, [(1, 0)]))
        self.assertEqual(done(FORK, ("join", ((2, 3),))), CHAIN2)
        self.assertEqual(done(FORK, ("join", ())), FORK)
        self.assertEqual(done(BACK, ("skeleton",)), POINT)
        self.assertEqual(done(IDLE, ("complete",)), completed(IDLE))
        self.assertNotEqual(completed(IDLE), IDLE)
        self.assertEqual(done(CHAIN2, ("back", (0, 1, 2))), BACK)
        self.assertEqual(done(EMPTY, ("list", ())), EMPTY)
        self.assertEqual(done(EMPTY, ("back", ())), EMPTY)

    def test_drawn_deeds(self):
        rng = random.Random(481)
        seen = {}
        for world in WORLDS + (APART8, chain_world(7)):
            for _ in range(80):
                deed = drawn_deed(rng, world)
                expected = made_by_words(world, deed)
                if expected is None:
                    self.assertEqual(raised(done, world, deed), NO_DEED)
                else:
                    self.assertEqual(done(world, deed), expected)
                    self.assertIsNone(world_breach(expected))
                seen[deed[0], expected is None] = True
        for word in WORDS:
            self.assertIn((word, False), seen)
        self.assertLessEqual({("times", True), ("back", True)}, set(seen))

    def check_none(self, world, *values):
        for value in values:
            self.assertEqual(raised(done, world, value), NO_DEED, value)

    def test_values_that_are_none(self):
        self.check_none(CHAIN2, *WRONG_VALUES)
        self.check_none(CHAIN2, "turn", ["turn"], ("Turn",), ("turned",), (b"turn",), (None,), (0,), (("turn",),),
                        ("",))
        self.check_none(CHAIN2, ("turn", ()), ("turn", None), ("turn", "turn"), ("skeleton", 0), ("complete", CHAIN2))
        self.check_none(CHAIN2, *[(word,) for word in WORDS if word not in ("turn", "skeleton", "complete")])
        for word in WORDS:
            self.check_none(CHAIN2, (word, 0, 0), (word, CHAIN2, CHAIN2), (word, None), (word, [0, 1]), (word, {0: 1}),
                            (word, "01"), (word, True), (word, range(2)))

    def test_worlds_that_are_none(self):
        for word in ("times", "beside"):
            for value in with_others(CHAIN2):
                if world_breach(value) is not None:
                    self.check_none(CHAIN2, (word, value))
            self.check_none(CHAIN2, (word, ()), (word, (1, ((0, 0),), ((True,),))), (word, (2, ((0, 0),), ((0,),))),
                            (word, (2, ((0, 0), (1, 1)), ((0, -1), (-1, 0)))), (word, (True, ((0, 0),), ((0,),))))

    def test_parts_and_listings_that_are_none(self):
        for value in ((1, 0), (0, 0), (0, 3), (-1, 0), (0, True), (True,), (False,), ("0",), (0.0,), (0, None), ((0,),),
                      [0], (0, 1, 2, 3), 3, None, "012", ([0],)):
            self.check_none(CHAIN3, ("part", value))
        for value in ((0, 1), (0, 1, 2, 3), (0, 1, 1), (0, 1, 3), (-1, 0, 1), (0, 1, True), (False, 1, 2), [0, 1, 2],
                      (0, 1, "2"), (0, 1, 2.0), (), None, 3, "012", ((0,), (1,), (2,))):
            self.check_none(CHAIN3, ("list", value))

    def test_pairs_that_are_none(self):
        for value in (((2,),), ((2, 3, 3),), ((2, 4),), ((-1, 2),), ((0, 2),), ((2, 0),), ((0, 1),), ([2, 3],),
                      [(2, 3)], (2, 3), ((2, True),), ((True, 1),), ((2, "3"),), ((2, None),), ((2, 3), (2,)),
                      ((2, 3), None), ((2, 3), (0, 1)), None, 0, "23"):
            self.check_none(FORK, ("join", value))
        self.assertEqual(done(FORK, ("join", ((2, 3), (3, 2), (2, 2), (1, 1), (2, 3)))), CHAIN2)
        # From one thing, but not to one thing.
        self.check_none(hand(3, [(0, 1), (0, 2)]), ("join", ((3, 4),)))

    def test_kinds_that_are_none_or_let_no_fractions(self):
        for value in ((1, 0, 2), (0, 0, 1), (0, 1, 3), (-1, 0, 1), (0, 1, True), (False, 1), [0, 1], (0, "1"), None, 0,
                      ((0,), (1,)), (0, 1.0)):
            self.check_none(CHAIN2, ("back", value))
        for world, kind in ((CHAIN2, ()), (CHAIN2, (0, 2)), (FORK, (0, 1, 2)), (CHAIN3, (0, 1, 2, 3, 5))):
            self.assertIsNotNone(fraction_breach(world, kind))
            self.check_none(world, ("back", kind))

    def test_worlds_that_would_be_too_great(self):
        self.check_none(APART8, ("times", TWO), ("beside", POINT))
        self.check_none(ring(20), ("times", ring(3)), ("beside", ring(21)))
        self.check_none(chain_world(7), ("back", tuple(range(28))))
        self.check_none(hand(2, [(0, 1)] * 38), ("beside", POINT))
        # Nine idle arrows.
        self.check_none(band(9), ("complete",))
        self.assertIsNone(raised(done, ring(20), ("times", TWO)))
        self.assertIsNone(raised(done, apart_world(4), ("times", TWO)))

    def test_bent_at_every_spot(self):
        rng = random.Random(482)
        for world in (CHAIN2, FORK, SPLIT):
            for _ in range(20):
                deed = drawn_good_deed(rng, world)
                if deed[0] in ("times", "beside") and len(deed[1][1]) > 2:
                    continue
                for value in with_others(deed):
                    expected = plain_answer(world, value)
                    if expected is None:
                        self.check_none(world, value)
                    else:
                        self.assertEqual(done(world, value), expected)


def plain_answer(world, value):
    """The world behind any value that is a deed, told by plain checks, or None."""
    if type(value) is not tuple or not is_plain(value) or not value or value[0] not in WORDS or has_bool(value):
        return None
    if type(value[0]) is not str or len(value) != (1 if value[0] in ("turn", "skeleton", "complete") else 2):
        return None
    n, ends, _ = world
    if len(value) == 2:
        told = value[1]
        if value[0] in ("times", "beside"):
            if world_breach(told) is not None:
                return None
        elif type(told) is not tuple:
            return None
        elif value[0] in ("part", "back", "list"):
            limit = len(ends) if value[0] == "back" else n
            if not all(type(k) is int and 0 <= k < limit for k in told):
                return None
            if value[0] == "list" and sorted(told) != list(range(n)):
                return None
            if value[0] != "list" and list(told) != sorted(set(told)):
                return None
        else:
            for pair in told:
                if type(pair) is not tuple or len(pair) != 2:
                    return None
                if not all(type(f) is int and 0 <= f < len(ends) for f in pair) or ends[pair[0]] != ends[pair[1]]:
                    return None
    return made_by_words(world, value)


def has_bool(value):
    return any(has_bool(entry) for entry in value) if type(value) is tuple else type(value) is bool


def state(desk):
    return (desk.now, desk.deeds)


class Desks(unittest.TestCase):

    def test_interface(self):
        self.assertEqual(str(inspect.signature(Desk)), "(world, *, most=40)")
        for name, told in (("do", "(self, deed)"), ("undo", "(self)"), ("again", "(self)"), ("trial", "(self, deeds)"),
                           ("twin", "(self)")):
            self.assertEqual(str(inspect.signature(vars(Desk)[name])), told)
        for name in ("now", "deeds"):
            self.assertIs(type(vars(Desk)[name]), property)
        self.assertEqual(Desk.__module__, desks.__name__)
        self.assertRaises(TypeError, Desk, CHAIN2, 3)

    def test_by_hand(self):
        desk = Desk(world=CHAIN2)
        self.assertEqual(state(desk), (CHAIN2, ()))
        self.assertIsNone(desk.do(("beside", POINT)))
        self.assertEqual(state(desk), (sum_of(CHAIN2, POINT), (("beside", POINT),)))
        self.assertIsNone(desk.do(deed=("turn",)))
        self.assertEqual(desk.deeds, (("beside", POINT), ("turn",)))
        self.assertEqual(desk.now, turned(sum_of(CHAIN2, POINT)))
        self.assertEqual(desk.undo(), ("turn",))
        self.assertEqual(desk.now, sum_of(CHAIN2, POINT))
        self.assertEqual(desk.undo(), ("beside", POINT))
        self.assertEqual(state(desk), (CHAIN2, ()))
        self.assertEqual(raised(desk.undo), NOT_DONE)
        self.assertEqual(desk.again(), ("beside", POINT))
        self.assertEqual(state(desk), (sum_of(CHAIN2, POINT), (("beside", POINT),)))
        self.assertEqual(desk.again(), ("turn",))
        self.assertEqual(raised(desk.again), NOT_UNDONE)
        self.assertEqual(desk.deeds, (("beside", POINT), ("turn",)))

    def test_a_deed_forgets_what_was_undone(self):
        desk = Desk(CHAIN2)
        desk.do(("turn",))
        desk.undo()
        desk.do(("skeleton",))
        self.assertEqual(raised(desk.again), NOT_UNDONE)
        self.assertEqual(desk.deeds, (("skeleton",),))
        # One that raises an error forgets nothing.
        desk.undo()
        self.assertEqual(raised(desk.do, ("times", APART8)), NO_DEED)
        self.assertEqual(desk.again(), ("skeleton",))
        # Neither does one that was done again.
        desk.do(("turn",))
        desk.undo()
        desk.undo()
        self.assertEqual((desk.again(), desk.again()), (("skeleton",), ("turn",)))

    def test_most(self):
        for most in (1, 2, 40, 200):
            desk = Desk(CHAIN2, most=most)
            for k in range(most):
                desk.do(("turn",))
            before = state(desk)
            self.assertEqual(len(desk.deeds), most)
            self.assertEqual(raised(desk.do, ("turn",)), too_many(most))
            self.assertEqual(raised(desk.do, ("back", (0,))), NO_DEED)
            self.assertEqual(raised(desk.do, None), NO_DEED)
            self.assertEqual(state(desk), before)
            self.assertEqual(desk.undo(), ("turn",))
            self.assertEqual(desk.again(), ("turn",))
            self.assertEqual(raised(desk.do, ("turn",)), too_many(most))
            desk.undo()
            desk.do(("skeleton",))
            self.assertEqual(desk.deeds, (("turn",),) * (most - 1) + (("skeleton",),))
            self.assertEqual(raised(desk.again), NOT_UNDONE)
        desk = Desk(POINT)
        for _ in range(40):
            desk.do(("complete",))
        self.assertEqual(raised(desk.do, ("complete",)), too_many(40))

    def test_too_many_forgets_nothing(self):
        desk = Desk(CHAIN2, most=2)
        desk.do(("turn",))
        desk.do(("turn",))
        desk.undo()
        self.assertEqual(raised(desk.do, ("turn", 1)), NO_DEED)
        self.assertEqual(desk.again(), ("turn",))
        self.assertEqual(raised(desk.do, ("turn",)), too_many(2))
        self.assertEqual(raised(desk.again), NOT_UNDONE)

    def test_trial(self):
        desk = Desk(CHAIN2, most=1)
        self.assertEqual(desk.trial(()), CHAIN2)
        self.assertEqual(desk.trial((("turn",), ("beside", POINT))), sum_of(turned(CHAIN2), POINT))
        self.assertEqual(desk.trial(deeds=(("turn",),) * 301), turned(CHAIN2))
        self.assertEqual(state(desk), (CHAIN2, ()))
        desk.do(("turn",))
        desk.undo()
        self.assertEqual(desk.trial((("list", (1, 0)),)), hand(2, [(1, 0)]))
        self.assertEqual(desk.again(), ("turn",))
        # It begins with the world as it stands, also where as many deeds stand as may.
        self.assertEqual(desk.trial((("turn",),)), CHAIN2)
        for value in WRONG_VALUES + ([("turn",)], "turn", {("turn",): 1}):
            if value != ():
                self.assertEqual(raised(desk.trial, value), NO_DEED)
        for value in (("turn",), (("turn",), None), (("turn",), ["turn"]), (("part", (0,)), ("part", (1,))),
                      (("turn",), ("times", APART8), ("times", APART8)), (("list", (1, 0)), ("list", (0, 1, 2)))):
            self.assertEqual(raised(desk.trial, value), NO_DEED)
        self.assertEqual(desk.deeds, (("turn",),))
        self.assertEqual(desk.trial((("beside", POINT), ("part", (2,)), ("part", (0,)))), POINT)

    def test_twin(self):
        desk = Desk(CHAIN2, most=3)
        desk.do(("turn",))
        desk.do(("beside", POINT))
        desk.undo()
        twin = desk.twin()
        self.assertIs(type(twin), Desk)
        self.assertEqual(state(twin), state(desk))
        self.assertEqual(twin.again(), ("beside", POINT))
        self.assertEqual(desk.deeds, (("turn",),))
        twin.do(("turn",))
        self.assertEqual(raised(twin.do, ("turn",)), too_many(3))
        self.assertEqual((desk.now, len(twin.deeds)), (turned(CHAIN2), 3))
        # What is taken back at the one can still be done again at the other one.
        self.assertEqual(desk.again(), ("beside", POINT))
        self.assertEqual(desk.undo(), ("beside", POINT))
        desk.do(("skeleton",))
        self.assertEqual([twin.undo() for _ in range(3)], [("turn",), ("beside", POINT), ("turn",)])
        self.assertEqual(state(twin), (CHAIN2, ()))
        self.assertEqual(desk.deeds, (("turn",), ("skeleton",)))
        self.assertEqual([twin.again() for _ in range(3)], [("turn",), ("beside", POINT), ("turn",)])
        self.assertEqual(raised(desk.again), NOT_UNDONE)
        self.assertEqual([desk.undo() for _ in range(2)], [("skeleton",), ("turn",)])
        self.assertEqual(raised(desk.undo), NOT_DONE)

    def test_tuples_that_were_told_stay(self):
        desk = Desk(CHAIN2)
        desk.do(("turn",))
        told, now = desk.deeds, desk.now
        desk.do(("beside", POINT))
        desk.undo()
        desk.undo()
        self.assertEqual((told, now), ((("turn",),), turned(CHAIN2)))

    def test_drawn_calls(self):
        rng = random.Random(483)
        for start in WORLDS:
            most = rng.choice((1, 2, 3, 5, 40))
            pairs = [(Desk(start, most=most), Model(start, most))]
            for _ in range(60):
                desk, model = rng.choice(pairs)
                self.step(rng, desk, model, pairs)
                for one, other in pairs:
                    self.assertEqual(state(one), (other.worlds[-1], tuple(other.stood)))

    def step(self, rng, desk, model, pairs):
        act = rng.choice(("do", "do", "do", "undo", "undo", "again", "again", "trial", "twin", "bad"))
        before = state(desk)
        if act in ("do", "bad"):
            bad = rng.choice(WRONG_VALUES + (("turn", 1), ("part", (9,))))
            deed = drawn_deed(rng, desk.now) if act == "do" else bad
            expected = model.do(deed)
            self.assertEqual(raised_or_told(desk.do, deed), expected)
            if expected is not None:
                self.assertEqual(state(desk), before)
        elif act == "undo":
            self.assertEqual(raised_or_told(desk.undo), model.undo())
        elif act == "again":
            self.assertEqual(raised_or_told(desk.again), model.again())
        elif act == "trial":
            deeds = []
            world = desk.now
            for _ in range(rng.randrange(5)):
                deeds.append(drawn_deed(rng, world))
                world = made_by_words(world, deeds[-1])
                if world is None:
                    break
            expected = NO_DEED if world is None else world
            self.assertEqual(raised_or_told(desk.trial, tuple(deeds)), expected)
            self.assertEqual(state(desk), before)
        elif len(pairs) < 3:
            pairs.append((desk.twin(), model.twin()))


def raised_or_told(function, *arguments):
    """What a call returns, or the error that it raises."""
    try:
        return function(*arguments)
    except errors.WorldError as e:
        return (type(e), vars(e))


class Model:
    """A desk told by plain lists: what a call returns, or the error that it raises."""

    def __init__(self, world, most):
        self.worlds, self.stood, self.undone, self.most = [world], [], [], most

    def do(self, deed):
        world = plain_answer(self.worlds[-1], deed)
        if world is None:
            return NO_DEED
        if len(self.stood) == self.most:
            return too_many(self.most)
        self.worlds.append(world)
        self.stood.append(deed)
        self.undone = []
        return None

    def undo(self):
        if not self.stood:
            return NOT_DONE
        self.undone.append((self.stood.pop(), self.worlds.pop()))
        return self.undone[-1][0]

    def again(self):
        if not self.undone:
            return NOT_UNDONE
        deed, world = self.undone.pop()
        self.stood.append(deed)
        self.worlds.append(world)
        return deed

    def twin(self):
        other = Model(self.worlds[0], self.most)
        other.worlds, other.stood, other.undone = list(self.worlds), list(self.stood), list(self.undone)
        return other


class Calls(unittest.TestCase):

    def test_calls(self):
        for deed in (("turn",), ("times", TWO), ("beside", POINT), ("part", (1,)), ("list", (1, 0)),
                     ("join", ((2, 3),)), ("skeleton",), ("complete",), ("back", (0, 1))):
            check_calls(self, done, {"world": FORK, "deed": deed})
            before = repr(deed)
            desk = Desk(FORK)
            desk.do(deed)
            self.assertEqual((repr(deed), desk.deeds), (before, (deed,)))
        deeds = [("turn",)]
        self.assertEqual(raised(Desk(FORK).trial, deeds), NO_DEED)
        self.assertEqual(deeds, [("turn",)])

    def test_how_long_it_takes(self):
        rng = random.Random(484)
        for world in random_worlds(485, 20, 14):
            for _ in range(10):
                self.assertLess(seconds(done, world, drawn_deed(rng, world)), 0.1)
        for world in (ring(40), band(40), chain_world(8), APART8, hand(2, [(0, 1)] * 38)):
            every = tuple(range(len(world[1])))
            for deed in (("turn",), ("times", POINT), ("times", APART8), ("beside", EMPTY), ("part", (0,)),
                         ("list", tuple(range(world[0]))), ("join", ((len(every) - 1, len(every) - 1),)),
                         ("join", tuple((f, f) for f in every)), ("skeleton",), ("complete",), ("back", every)):
                self.assertLess(seconds(done, world, deed), 1)
        self.assertLess(seconds(Desk(CHAIN3).trial, (("turn",), ("skeleton",)) * 200), 1)
        desk = Desk(ring(40), most=200)
        for _ in range(200):
            self.assertLess(seconds(desk.do, ("turn",)), 0.1)
        self.assertLess(seconds(desk.twin), 0.1)


if __name__ == "__main__":
    unittest.main()
