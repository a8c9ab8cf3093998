"""Points 1 and 11: rows that write whether all inputs are yes."""

import random
import unittest

from lockturns.alls import all_row, most_all
from lockturns.errors import BadLock, BadNumber, NotPrime, NoWay, TooMany
from lockturns.locks import all_turns
from lockturns.rows import degrees, worths, writes, written
from lockturns.tasks import all_of
from lockturns.weights import told_number
from samples import (
    LOCKS, NO_NUMBERS, SQUARE, STRANGE, TOO_LONG, TRIANGLE, drawn_prime_locks, drawn_row,
    small_locks, then)


class AllsTest(unittest.TestCase):
    def test_examples(self):
        row, turn = all_row(((1, 0),), 1)
        self.assertEqual(
            [most_all(((1, 2, 0), (1, 0, 2))), most_all(((1, 0),)),
             writes(((1, 0),), (0, 1), row, turn)], [None, 1, True])
        with self.assertRaises(NoWay):
            all_row(((1, 0),), 2)

    def check_row(self, lock, inputs):
        found = all_row(lock, inputs)
        self.assertIsInstance(found, tuple)
        row, turn = found
        self.assertIsInstance(row, tuple)
        self.assertLessEqual(len(row), 6000)
        self.assertIs(writes(lock, all_of(inputs), row, turn), True)
        self.assertEqual(all_row(lock, inputs), found)

    def check_lock(self, lock, most):
        for inputs in range(1, 7):
            if most is None or inputs <= most:
                self.check_row(lock, inputs)
            else:
                with self.assertRaises(NoWay):
                    all_row(lock, inputs)

    def test_all_samples(self):
        for name, (lock, _, dying, _, prime) in LOCKS.items():
            with self.subTest(name=name):
                if dying and prime is None:
                    with self.assertRaises(NotPrime):
                        most_all(lock)
                    for inputs in range(1, 7):
                        with self.assertRaises(NotPrime):
                            all_row(lock, inputs)
                else:
                    most = told_number(lock) if dying else None
                    self.assertEqual(most_all(lock), most)
                    self.check_lock(lock, most)

    def test_told_samples(self):
        for name, most in (("two places", 1), ("three round", 2), ("four round", 3),
                           ("five round", 4), ("seven round", 6), ("eight round", 7),
                           ("square", 4), ("quaternions", 4), ("twos", 4), ("octagon", 8),
                           ("triangle", None), ("even four", None), ("even five", None)):
            self.assertEqual(most_all(LOCKS[name][0]), most, name)
            self.check_lock(LOCKS[name][0], most)

    def test_small_locks_that_are_not_nilpotent(self):
        for lock in small_locks():
            if len(all_turns(lock)) in (6, 12, 24):
                self.assertIsNone(most_all(lock))
                self.check_lock(lock, None)

    def test_drawn_locks_of_a_primes_power(self):
        for lock in drawn_prime_locks(14, 60):
            with self.subTest(lock=lock):
                self.check_lock(lock, most_all(lock))


class NoMoreTest(unittest.TestCase):
    def every_row(self, lock, inputs):
        """What all rows for so many inputs are worth, by places of a table."""
        turns = all_turns(lock)
        steps = [worths(lock, inputs, ((own, no, yes),)) for own in range(inputs)
                 for no in turns for yes in turns]
        found = {worths(lock, inputs, ())}
        level = list(found)
        while level:
            longer = []
            for reached in level:
                for step in steps:
                    more = tuple(then(one, other) for one, other in zip(reached, step))
                    if more not in found:
                        found.add(more)
                        longer.append(more)
            level = longer
        return found

    def test_no_row_at_all_writes_one_more(self):
        double = ((1, 0, 2, 3), (0, 1, 3, 2))
        for lock, most in ((((1, 0),), 1), (((1, 2, 0),), 2), (((1, 2, 3, 0),), 3), (double, 2)):
            self.assertEqual(most_all(lock), most)
            for inputs in range(1, most + 2):
                can = any(reached.count(reached[-1]) == 1
                          for reached in self.every_row(lock, inputs))
                self.assertEqual(can, inputs <= most)

    def test_no_drawn_row_writes_above_the_told_number(self):
        drawn = random.Random(15)
        locks = [row[0] for row in LOCKS.values() if row[4] is not None]
        reached = 0
        for lock in locks + drawn_prime_locks(16, 40):
            most = told_number(lock)
            for inputs in range(1, 7):
                row = drawn_row(drawn, all_turns(lock), inputs, drawn.randint(0, 40))
                found = degrees(lock, inputs, row)
                self.assertTrue(all(0 <= degree <= most for _, degree in found))
                reached += any(degree == most for _, degree in found)
        self.assertGreater(reached, 20)

    def test_all_row_writes_its_own_degree(self):
        for lock, most in ((SQUARE, 4), (((1, 2, 0),), 2), (LOCKS["octagon"][0], 8)):
            for inputs in range(1, min(most, 6) + 1):
                row, turn = all_row(lock, inputs)
                self.assertEqual(written(lock, inputs, row, turn), all_of(inputs))
                self.assertIn((turn, inputs), degrees(lock, inputs, row))


class WrongValuesTest(unittest.TestCase):
    def test_no_numbers(self):
        nilpotent = LOCKS["two and three round"][0]
        for inputs in NO_NUMBERS:
            # What a lock cannot do comes behind what is wrong with the number.
            for lock in (TRIANGLE, SQUARE, ((1, 0),), nilpotent, ((0, 1),)):
                with self.subTest(inputs=inputs), self.assertRaises(BadNumber):
                    all_row(lock, inputs)

    def test_no_locks(self):
        for lock in STRANGE + ((), ((1, 0),) * 5, ((1, 0), (0, 0))):
            with self.subTest(lock=lock):
                with self.assertRaises(BadLock):
                    most_all(lock)
                for inputs in (1, 6, 0, None):
                    with self.assertRaises(BadLock):
                        all_row(lock, inputs)

    def test_too_many_turns(self):
        for lock in TOO_LONG:
            with self.assertRaises(TooMany):
                most_all(lock)
            for inputs in (1, 6, 0, None):
                with self.assertRaises(TooMany) as caught:
                    all_row(lock, inputs)
                self.assertEqual(caught.exception.most, 240)

    def test_the_still_one_alone(self):
        for lock in (((0, 1),), ((0, 1, 2),) * 4):
            with self.assertRaises(NotPrime):
                most_all(lock)
            for inputs in (1, 2, 6):
                with self.assertRaises(NotPrime):
                    all_row(lock, inputs)


if __name__ == "__main__":
    unittest.main()
