"""The interface: names, arguments, and the files that define them."""

import importlib
import inspect
import unittest

INTERFACE = {
    "worlds": ("world_breach(value)", "check_world(value)", "between(world, x, y)", "followed(world, f, g)",
               "turned(world)"),
    "arrows": ("back_of(world, f)", "is_sure(world, f)", "is_wide(world, f)", "is_idle(world, f)"),
    "orders": ("order_world(n, pairs)", "chain_world(n)", "apart_world(n)", "loop_world(rows)"),
    "made": ("product(one, other)", "sum_of(one, other)", "part_of(world, things)", "renumbered(world, things)"),
    "joins": ("joined_parts(world, pairs)", "joined(world, pairs)", "into_joined(world, pairs)",
              "copies(one, other)", "are_copies(one, other)"),
    "ways": ("ways(web)", "free_world(web)", "least_way(web, equals, way)", "told_world(web, equals)"),
    "waysteps": ("way_rules(web, equals)", "way_steps(web, equals, one, other)", "stepped(web, equals, way, steps)",
                 "told_map(web, equals, other, things, arrows)"),
    "maps": ("map_breach(one, other, value)", "still_map(world)", "behind(first, second)",
             "maps_between(one, other)", "is_full(one, other, along)", "is_faithful(one, other, along)",
             "does_fill(one, other, along)"),
    "families": ("is_family(one, other, first, second, value)", "families(one, other, first, second)",
                 "then_families(other, a, b)", "beside(third, a, b, near, far)", "map_world(one, other)"),
    "alikes": ("same_parts(world)", "skeleton(world)", "skeleton_map(world)", "alikeness(one, other)",
               "is_alikeness(one, other, value)", "are_alike(one, other)"),
    "idles": ("split_of(world, e)", "is_split(world)", "completed(world)", "into_completed(world)",
              "are_exchangeable(one, other)", "shares_of(world, x)"),
    "cones": ("cones(shape, world, drawing, x)", "ends_of(world)", "begins_of(world)",
              "best_cone(shape, world, drawing)", "rival_of(shape, world, drawing, x, legs)",
              "best_cocone(shape, world, drawing)", "does_keep(one, other, along, shape, drawing)"),
    "commas": ("cone_world(shape, world, drawing)", "comma(one, other, third, first, second)",
               "comma_sides(one, other, third, first, second)", "pair_shape()", "fork_shape()", "corner_shape()",
               "best_pair(world, x, y)", "best_fork(world, f, g)", "best_corner(world, f, g)"),
    "partners": ("beneath(one, other, along, y)", "right_partner(one, other, along)", "lacking(one, other, along)",
                 "left_partner(one, other, along)", "left_lacking(one, other, along)",
                 "is_partnership(one, other, first, second, value)", "partnerships(one, other, first, second)"),
    "reflections": ("reflection(world, things)", "reflecting_parts(world)", "closures(world)"),
    "lots": ("lot_breach(world, value)", "single(world, x)", "lot_families(world, one, other)",
             "family_of(world, lot, x, k)", "are_lot_copies(world, one, other)", "element_world(world, lot)",
             "element_map(world, lot)", "lot_sum(world, one, other)", "lot_product(world, one, other)"),
    "moved": ("pulled(one, other, along, lot)", "pushed(one, other, along, lot)", "gathered(one, other, along, lot)"),
    "covers": ("book_breach(world, value)", "least_book(world, told)", "all_books(world)", "cores(world)",
               "core_of(world, book)", "book_of(world, core)"),
    "glue": ("fitting(world, lot, fan)", "is_apart(world, book, lot)", "is_glued(world, book, lot)",
             "glued_once(world, book, lot)", "glue_family(world, book, lot)", "glued(world, book, lot)"),
    "backturns": ("fraction_breach(world, kind)", "turnable_kind(world)", "turned_back(world, kind)",
                  "into_turned_back(world, kind)", "kept_kind(world, kind)"),
    "squares": ("lifts(world, e, m, u, v)", "does_fill_against(world, e, m)", "right_of(world, kind)",
                "left_of(world, kind)", "parting_pairs(world)", "parted(world, pair, f)"),
    "monads": ("monad_breach(world, value)", "monad_of(one, other, first, second, unit, counit)",
               "monads_over(world, along)"),
    "algebras": ("free_algebras(world, monad)", "all_algebras(world, monad)", "free_sides(world, monad)",
                 "all_sides(world, monad)", "compared(one, other, first, second, unit, counit)"),
    "weights": ("weighting(world)", "size_of(world)", "chain_counts(world)"),
    "desks": ("done(world, deed)",),
    "truths": ("parts_of(world, lot)", "so_part(world, lot, one, other)", "fans(world, x)",
               "fan_behind(world, fan, f)", "truths(world)", "truth_family(world, lot, part)"),
}


class Interface(unittest.TestCase):

    def test_names_and_arguments(self):
        for name, listed in INTERFACE.items():
            module = importlib.import_module("arrowworlds." + name)
            for told in listed:
                function = getattr(module, told.partition("(")[0])
                self.assertEqual(function.__name__ + str(inspect.signature(function)), told)
                self.assertEqual(function.__module__, "arrowworlds." + name)

    def test_the_class(self):
        desk = importlib.import_module("arrowworlds.desks").Desk
        self.assertEqual(str(inspect.signature(desk)), "(world, *, most=40)")
        self.assertEqual(desk.__module__, "arrowworlds.desks")
        for told in ("do(self, deed)", "undo(self)", "again(self)", "trial(self, deeds)", "twin(self)"):
            method = vars(desk)[told.partition("(")[0]]
            self.assertEqual(method.__name__ + str(inspect.signature(method)), told)
        for name in ("now", "deeds"):
            self.assertIs(type(vars(desk)[name]), property)


if __name__ == "__main__":
    unittest.main()
