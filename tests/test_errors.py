"""The interface, for timerdeque/errors.py, and the classes of errors of point 2."""

import inspect
import unittest

from timerdeque import errors

NAMES = ["NoBase", "NoLevels", "NoTick", "NoPeriod", "NoTimer", "NoOrder", "NoSighting", "NoSnapshot", "NoRow",
         "TooMany"]


class Errors(unittest.TestCase):
    def test_the_root_is_a_value_error(self):
        self.assertEqual(errors.TimerError.__bases__, (ValueError,))

    def test_each_other_one_stands_directly_under_the_root(self):
        for name in NAMES:
            with self.subTest(name):
                self.assertEqual(getattr(errors, name).__bases__, (errors.TimerError,))

    def test_there_are_no_others_and_all_are_defined_here(self):
        found = {name: kind for name, kind in vars(errors).items() if inspect.isclass(kind)}
        self.assertEqual(sorted(found), sorted(NAMES + ["TimerError"]))
        for kind in found.values():
            self.assertEqual(kind.__module__, "timerdeque.errors")

    def test_each_may_be_made_with_a_message(self):
        for name in NAMES + ["TimerError"]:
            with self.subTest(name):
                self.assertEqual(str(getattr(errors, name)("told")), "told")


if __name__ == "__main__":
    unittest.main()
