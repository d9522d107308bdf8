"""The interface: names, arguments, and the files that define them."""

import importlib
import inspect
import unittest

INTERFACE = {
    "worlds": ("world_breach(value)", "check_world(value)", "between(world, x, y)", "followed(world, f, g)",
               "turned(world)"),
    "arrows": ("back_of(world, f)", "is_sure(world, f)", "is_wide(world, f)", "is_idle(world, f)"),
    "orders": ("order_world(n, pairs)", "chain_world(n)", "apart_world(n)", "loop_world(rows)"),
    "made": ("product(one, other)", "sum_of(one, other)", "part_of(world, things)", "renumbered(world, things)"),
    "joins": ("joined_parts(world, pairs)", "joined(world, pairs)", "into_joined(world, pairs)",
              "copies(one, other)", "are_copies(one, other)"),
    "ways": ("ways(web)", "free_world(web)", "least_way(web, equals, way)", "told_world(web, equals)"),
    "waysteps": ("way_rules(web, equals)", "way_steps(web, equals, one, other)", "stepped(web, equals, way, steps)",
                 "told_map(web, equals, other, things, arrows)"),
    "maps": ("map_breach(one, other, value)", "still_map(world)", "behind(first, second)",
             "maps_between(one, other)", "is_full(one, other, along)", "is_faithful(one, other, along)",
             "does_fill(one, other, along)"),
}


class Interface(unittest.TestCase):

    def test_names_and_arguments(self):
        for name, listed in INTERFACE.items():
            module = importlib.import_module("arrowworlds." + name)
            for told in listed:
                function = getattr(module, told.partition("(")[0])
                self.assertEqual(function.__name__ + str(inspect.signature(function)), told)
                self.assertEqual(function.__module__, "arrowworlds." + name)


if __name__ == "__main__":
    unittest.main()
