"""Point 1 and the interface, as far as they speak of the errors."""

import unittest

from lockturns import errors
from lockturns.errors import BadLine, BadLock, BadRow, BadSign, LockError, TooMany

NAMES = ("BadLock", "BadRow", "BadSign", "BadLine", "TooMany", "BadTurn", "BadTask",
         "BadNumber", "NoWay", "NotPrime", "BadString")


class ErrorsTest(unittest.TestCase):
    def test_all_stand_under_lock_error(self):
        self.assertTrue(issubclass(LockError, ValueError))
        for name in NAMES:
            error = getattr(errors, name)
            self.assertTrue(issubclass(error, LockError), name)
            self.assertEqual(error.__module__, "lockturns.errors")

    def test_no_error_but_lock_error_stands_over_another(self):
        for name in NAMES:
            for other in NAMES:
                if name != other:
                    self.assertFalse(issubclass(getattr(errors, name), getattr(errors, other)))

    def test_fields(self):
        for error in (BadLock, BadRow, BadSign):
            self.assertEqual(error(3).place, 3)
            self.assertEqual(error(place=4).place, 4)
        self.assertIsNone(BadLock(None).place)
        told = BadLine(2, 5)
        self.assertEqual((told.line, told.place), (2, 5))
        told = BadLine(place=5, line=2)
        self.assertEqual((told.line, told.place), (2, 5))
        self.assertEqual(TooMany(240).most, 240)
        self.assertEqual(TooMany(most=6000).most, 6000)

    def test_without_fields(self):
        for name in ("BadTurn", "BadTask", "BadNumber", "NoWay", "NotPrime", "BadString"):
            with self.assertRaises(LockError):
                raise getattr(errors, name)()


if __name__ == "__main__":
    unittest.main()
