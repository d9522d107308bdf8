"""[2]: the errors."""

import unittest

from arrowworlds import errors

NAMES = ("NotWorld", "TooMany", "NotFollowing", "NotOrder", "NotLoops", "NotSteps", "NotKept",
         "NotFractions", "NotOneWay", "NotDeed", "NotDone", "NotUndone")


class Errors(unittest.TestCase):

    def test_base(self):
        self.assertEqual(errors.WorldError.__bases__, (ValueError,))

    def test_each_is_a_direct_subclass(self):
        for name in NAMES:
            self.assertEqual(getattr(errors, name).__bases__, (errors.WorldError,), name)
            self.assertEqual(getattr(errors, name).__module__, "arrowworlds.errors")

    def test_there_are_no_others(self):
        found = [name for name, value in vars(errors).items() if isinstance(value, type)]
        self.assertEqual(sorted(found), sorted(NAMES + ("WorldError",)))

    def test_attributes(self):
        e = errors.NotWorld("fit", 3)
        self.assertEqual((e.rule, e.place), ("fit", 3))
        self.assertEqual(errors.TooMany(8).limit, 8)
        self.assertEqual(errors.NotSteps(-1).place, -1)
        self.assertEqual(errors.NotKept(2).place, 2)

    def test_they_are_raised_as_value_errors(self):
        for name in ("NotFollowing", "NotOrder", "NotLoops"):
            with self.assertRaises(ValueError):
                raise getattr(errors, name)("why")


if __name__ == "__main__":
    unittest.main()
