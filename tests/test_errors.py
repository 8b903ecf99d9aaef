"""Promise [1] and the interface: the classes of refusals."""

import unittest

from asklock import errors

NAMES = (
    "NoTable", "NoHall", "NoAgent", "NoLock", "NoHouse", "NoLetter",
    "Stopped", "Waits", "Holds", "NotHeld", "Up",
)


class Errors(unittest.TestCase):
    def test_lock_error_is_directly_a_value_error(self):
        self.assertEqual(errors.LockError.__bases__, (ValueError,))

    def test_each_class_is_directly_a_lock_error(self):
        for name in NAMES:
            with self.subTest(name):
                self.assertEqual(getattr(errors, name).__bases__, (errors.LockError,))

    def test_each_class_is_caught_as_a_lock_error_and_as_a_value_error(self):
        for name in NAMES:
            for wider in (errors.LockError, ValueError):
                with self.subTest(name, wider=wider), self.assertRaises(wider):
                    raise getattr(errors, name)("why")

    def test_none_is_one_of_the_others(self):
        for name in NAMES:
            for other in NAMES:
                with self.subTest(name, other=other):
                    below = issubclass(getattr(errors, name), getattr(errors, other))
                    self.assertEqual(below, name == other)

    def test_each_class_has_its_own_name(self):
        for name in ("LockError", *NAMES):
            with self.subTest(name):
                self.assertEqual(getattr(errors, name).__name__, name)


if __name__ == "__main__":
    unittest.main()
