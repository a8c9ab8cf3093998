"""Points 1 and 12: rows that write any task."""

import copy
import itertools
import random
import unittest

from lockturns.errors import BadLock, BadTask, NoWay, TooMany
from lockturns.fulls import can_all, row_for
from lockturns.rows import writes
from lockturns.tasks import all_of
from samples import (
    FIVE, LOCKS, NO_TABLES, SQUARE, STRANGE, TOO_LONG, TRIANGLE, product_for, small_locks)

DYING = {name: row[0] for name, row in LOCKS.items() if row[2]}
LASTING = {name: row[0] for name, row in LOCKS.items() if not row[2]}


class FullsTest(unittest.TestCase):
    def test_example(self):
        lock, table = ((1, 2, 0), (1, 0, 2)), (1, 0, 0, 1)
        row, turn = row_for(lock, table)
        self.assertEqual(
            [can_all(lock), writes(lock, table, row, turn), can_all(((1, 2, 3, 0), (3, 2, 1, 0)))],
            [True, True, False])

    def test_can_all(self):
        for name, (lock, _, dying, _, _) in LOCKS.items():
            self.assertIs(can_all(lock), not dying, name)
        # Nilpotent without a prime, solvable but not nilpotent, and not solvable.
        self.assertIs(can_all(((0, 1),)), False)
        self.assertIs(can_all(((1, 0, 3, 4, 2),)), False)
        self.assertIs(can_all(((1, 2, 0), (1, 0, 2))), True)
        self.assertIs(can_all(FIVE), True)

    def check(self, lock, table):
        found = row_for(lock, table)
        self.assertIsInstance(found, tuple)
        row, turn = found
        self.assertIsInstance(row, tuple)
        self.assertLessEqual(len(row), 6000)
        self.assertIs(writes(lock, table, row, turn), True)
        return found

    def test_every_table_of_one_and_two_inputs(self):
        for lock in LASTING.values():
            for many in (2, 4):
                for table in itertools.product((0, 1), repeat=many):
                    self.check(lock, table)

    def test_every_table_of_three_inputs(self):
        for lock in (TRIANGLE, FIVE):
            for table in itertools.product((0, 1), repeat=8):
                self.check(lock, table)

    def test_by_the_words_of_the_document(self):
        for lock, table in ((TRIANGLE, (0, 1, 1, 0)), (FIVE, (1, 0, 1, 1, 0, 0, 0, 1))):
            row, turn = row_for(lock, table)
            for place, bit in enumerate(table):
                self.assertEqual(product_for(row, len(lock[0]), place) == turn, bit == 1)

    def test_tables_of_three_to_six_inputs(self):
        drawn = random.Random(20)
        for name, lock in LASTING.items():
            for inputs in range(3, 7):
                many = 2 ** inputs
                # Half of the places, and one more or less, have the longest rows.
                half = [1] * (many // 2) + [0] * (many // 2)
                drawn.shuffle(half)
                some = half.index(0)
                tables = [all_of(inputs), tuple(1 - bit for bit in all_of(inputs)),
                          (0,) * many, (1,) * many, tuple(half),
                          tuple(half[:some] + [1] + half[some + 1:]),
                          tuple(drawn.choice((0, 1)) for _ in range(many)),
                          tuple(int(drawn.random() < 0.9) for _ in range(many))]
                for table in tables:
                    with self.subTest(name=name, table=table):
                        self.check(lock, table)

    def test_many_drawn_tables_of_six_inputs(self):
        drawn = random.Random(21)
        for lock in (TRIANGLE, LOCKS["five beside two"][0], LOCKS["triangles over two"][0]):
            for _ in range(25):
                self.check(lock, tuple(drawn.choice((0, 1)) for _ in range(64)))

    def test_small_locks(self):
        drawn = random.Random(22)
        for lock in small_locks():
            table = tuple(drawn.choice((0, 1)) for _ in range(8))
            if can_all(lock):
                self.check(lock, table)
            else:
                with self.assertRaises(NoWay):
                    row_for(lock, table)

    def test_equal_arguments_have_equal_answers(self):
        table = (0, 1, 1, 0, 1, 0, 0, 1)
        self.assertEqual(row_for(TRIANGLE, table),
                         row_for(tuple([tuple(list(one)) for one in TRIANGLE]),
                                 tuple(list(table))))


class WrongValuesTest(unittest.TestCase):
    def test_no_way_for_nilpotent_locks(self):
        for name, lock in DYING.items():
            for table in ((0, 0), (1, 1), (0, 1), (1, 0), (0, 1, 1, 0), (1,) * 64, (0,) * 64):
                with self.subTest(name=name, table=table), self.assertRaises(NoWay):
                    row_for(lock, table)

    def test_no_tables(self):
        # A table that is none comes ahead of what a lock cannot do.
        for lock in (TRIANGLE, FIVE, SQUARE, ((0, 1),), DYING["two and three round"]):
            for table in NO_TABLES:
                with self.subTest(table=table), self.assertRaises(BadTask):
                    row_for(lock, table)

    def test_no_locks(self):
        for lock in STRANGE + ((), ((1, 0),) * 5, ((1, 0), (0, 0))):
            with self.subTest(lock=lock):
                with self.assertRaises(BadLock):
                    can_all(lock)
                for table in ((0, 1), None, (0, 1, 0)):
                    with self.assertRaises(BadLock):
                        row_for(lock, table)

    def test_too_many_turns(self):
        for lock in TOO_LONG:
            for function in (lambda: can_all(lock), lambda: row_for(lock, (0, 1)),
                             lambda: row_for(lock, None)):
                with self.assertRaises(TooMany) as caught:
                    function()
                self.assertEqual(caught.exception.most, 240)

    def test_arguments_are_not_changed(self):
        for value in ([0, 1], {0: [1]}, [[1, 2, 0], [1, 0, 2]], ([0, 1], {1: 0})):
            before = copy.deepcopy(value)
            with self.assertRaises(BadLock):
                row_for(value, value)
            with self.assertRaises(BadTask):
                row_for(TRIANGLE, value)
            self.assertEqual(value, before)


if __name__ == "__main__":
    unittest.main()
