"""Points 1 and 8: rows of steps, and what they write."""

import copy
import itertools
import random
import unittest

from lockturns.errors import BadLock, BadNumber, BadRow, BadTask, BadTurn, NotPrime, TooMany
from lockturns.locks import all_turns
from lockturns.rows import degrees, worths, writes, written
from samples import (
    FIVE, LOCKS, NO_NUMBERS, NO_STEPS, NO_TABLES, NO_TUPLES, ODD, ROUND, SQUARE, STEP, STILL,
    STRANGE, TOO_LONG, TRIANGLE, degree_by_definition, drawn_row, product_for)


class WorthsTest(unittest.TestCase):
    def test_example(self):
        lock = ((1, 2, 3, 0),)
        row = tuple([(own, (0, 1, 2, 3), (1, 2, 3, 0)) for own in range(2)])
        self.assertEqual(
            [worths(lock, 2, row)[3], written(lock, 2, row, (1, 2, 3, 0)),
             writes(lock, (0, 0, 0, 1), row, (2, 3, 0, 1)), degrees(lock, 2, row)],
            [(2, 3, 0, 1), (0, 1, 1, 0), True,
             (((0, 1, 2, 3), 2), ((1, 2, 3, 0), 1), ((2, 3, 0, 1), 2))])

    def test_drawn_rows_of_all_locks(self):
        drawn = random.Random(8)
        for name, (lock, *_) in LOCKS.items():
            turns = all_turns(lock)
            for inputs in range(1, 7):
                row = drawn_row(drawn, turns, inputs, drawn.randint(0, 9))
                with self.subTest(name=name, row=row):
                    reached = worths(lock, inputs, row)
                    self.assertIsInstance(reached, tuple)
                    self.assertEqual(reached, tuple(product_for(row, len(lock[0]), place)
                                                    for place in range(2 ** inputs)))

    def test_a_row_is_done_from_its_first_step_on(self):
        row = ((0, STILL, ROUND), (1, STILL, ODD))
        self.assertEqual(worths(TRIANGLE, 2, row), (STILL, ROUND, ODD, (0, 2, 1)))
        self.assertEqual(worths(TRIANGLE, 2, row[::-1]), (STILL, ROUND, ODD, (2, 1, 0)))

    def test_no_and_yes(self):
        self.assertEqual(worths(TRIANGLE, 1, ((0, ODD, ROUND),)), (ODD, ROUND))
        self.assertEqual(worths(TRIANGLE, 2, ((1, ODD, ROUND),)), (ODD, ODD, ROUND, ROUND))

    def test_a_row_of_no_steps(self):
        for inputs in range(1, 7):
            self.assertEqual(worths(TRIANGLE, inputs, ()), (STILL,) * 2 ** inputs)
        self.assertEqual(written(TRIANGLE, 2, (), STILL), (1, 1, 1, 1))
        self.assertEqual(written(TRIANGLE, 2, (), ODD), (0, 0, 0, 0))
        self.assertIs(writes(TRIANGLE, (1, 1), (), STILL), True)
        self.assertEqual(degrees(SQUARE, 3, ()), (((0, 1, 2, 3), 0),))

    def test_a_row_of_6000_steps_and_one_more(self):
        drawn = random.Random(9)
        for lock in (TRIANGLE, LOCKS["five beside two"][0], SQUARE):
            turns = all_turns(lock)
            row = drawn_row(drawn, turns, 6, 6000)
            reached = worths(lock, 6, row)
            for place in (0, 1, 13, 63):
                self.assertEqual(reached[place], product_for(row, len(lock[0]), place))
            self.assertEqual(written(lock, 6, row, reached[5])[5], 1)
            self.assertIs(writes(lock, written(lock, 6, row, reached[5]), row, reached[5]), True)
            for function in calls_with(lock, 6, row + row[:1], turns[0]):
                with self.assertRaises(BadRow) as caught:
                    function()
                self.assertIsNone(caught.exception.place)

    def test_equal_arguments_have_equal_answers(self):
        row = ((0, STILL, ROUND), (1, ODD, STILL))
        again = tuple((own, tuple(list(no)), tuple(list(yes))) for own, no, yes in row)
        self.assertEqual(worths(TRIANGLE, 2, row), worths(TRIANGLE, 2, again))


def calls_with(lock, inputs, row, turn):
    """Calls of each function with a row, all else being right."""
    return (lambda: worths(lock, inputs, row), lambda: written(lock, inputs, row, turn),
            lambda: writes(lock, (0,) * 2 ** inputs, row, turn),
            lambda: degrees(lock, inputs, row))


class WrittenTest(unittest.TestCase):
    def test_written_and_writes_by_definition(self):
        drawn = random.Random(10)
        for lock in (TRIANGLE, SQUARE, FIVE, LOCKS["two and three round"][0]):
            turns = all_turns(lock)
            for inputs in (1, 2, 3):
                row = drawn_row(drawn, turns, inputs, 4)
                reached = worths(lock, inputs, row)
                for turn in turns:
                    wanted = tuple(int(one == turn) for one in reached)
                    table = written(lock, inputs, row, turn)
                    self.assertEqual(table, wanted)
                    self.assertTrue(all(type(bit) is int for bit in table))
                    self.assertIs(writes(lock, wanted, row, turn), True)
                    for place in range(2 ** inputs):
                        other = list(wanted)
                        other[place] = 1 - other[place]
                        self.assertIs(writes(lock, tuple(other), row, turn), False)

    def test_every_table_of_two_inputs(self):
        row = ((0, STILL, ROUND), (1, STILL, ROUND))
        for turn in all_turns(TRIANGLE):
            right = [table for table in itertools.product((0, 1), repeat=4)
                     if writes(TRIANGLE, table, row, turn)]
            self.assertEqual(right, [written(TRIANGLE, 2, row, turn)])

    def test_the_number_of_inputs_comes_from_the_table(self):
        row = ((2, STILL, ROUND),)
        self.assertIs(writes(TRIANGLE, (0, 0, 0, 0, 1, 1, 1, 1), row, ROUND), True)
        self.assertIs(writes(TRIANGLE, (0,) * 4 + (1,) * 4 + (0,) * 8, row, ROUND), False)
        with self.assertRaises(BadRow) as caught:
            writes(TRIANGLE, (0, 0, 0, 1), row, ROUND)
        self.assertEqual(caught.exception.place, 0)
        for inputs in range(1, 7):
            row = ((inputs - 1, STILL, ROUND),)
            table = (0,) * 2 ** (inputs - 1) + (1,) * 2 ** (inputs - 1)
            self.assertIs(writes(TRIANGLE, table, row, ROUND), True)

    def test_degrees_by_definition(self):
        drawn = random.Random(11)
        for name, (lock, many, _, _, prime) in LOCKS.items():
            if prime is None:
                continue
            turns = all_turns(lock)
            for inputs in (1, 2, 3, 4):
                row = drawn_row(drawn, turns, inputs, drawn.randint(0, 8))
                reached = worths(lock, inputs, row)
                wanted = tuple((turn, degree_by_definition(
                    prime, tuple(int(one == turn) for one in reached)))
                    for turn in turns if turn in reached)
                with self.subTest(name=name, row=row):
                    self.assertEqual(degrees(lock, inputs, row), wanted)

    def test_degrees_need_a_prime(self):
        for name, (lock, _, _, _, prime) in LOCKS.items():
            still = tuple(range(len(lock[0])))
            for row in ((), ((0, still, lock[0]),)):
                if prime is None:
                    with self.subTest(name=name), self.assertRaises(NotPrime):
                        degrees(lock, 2, row)
                else:
                    self.assertGreater(len(degrees(lock, 2, row)), 0)


class WrongValuesTest(unittest.TestCase):
    def test_no_steps(self):
        for value in NO_STEPS:
            for row, place in (((value,), 0), ((value, value), 0), ((STEP, value), 1),
                               ((STEP, STEP, value, STEP, None), 2),
                               ((STEP,) * 5999 + (value,), 5999)):
                with self.subTest(value=value, place=place):
                    with self.assertRaises(BadRow) as caught:
                        worths(TRIANGLE, 2, row)
                    self.assertEqual(caught.exception.place, place)
            for function in calls_with(TRIANGLE, 2, (STEP, value), STILL):
                with self.assertRaises(BadRow) as caught:
                    function()
                self.assertEqual(caught.exception.place, 1)

    def test_inputs_that_the_task_lacks(self):
        for inputs in range(1, 7):
            row = tuple((own, STILL, ODD) for own in range(inputs))
            self.assertEqual(worths(TRIANGLE, inputs, row)[0], STILL)
            for own in range(inputs, 8):
                with self.assertRaises(BadRow) as caught:
                    worths(TRIANGLE, inputs, row + ((own, STILL, ODD),))
                self.assertEqual(caught.exception.place, inputs)

    def test_permutations_that_are_no_turns_of_the_lock(self):
        still, outside = (0, 1, 2, 3), (1, 0, 2, 3)
        for step in ((0, still, outside), (0, outside, still), (0, outside, outside)):
            for function in calls_with(SQUARE, 1, ((0, still, still), step), still):
                with self.assertRaises(BadRow) as caught:
                    function()
                self.assertEqual(caught.exception.place, 1)

    def test_no_tuples_of_so_many(self):
        for row in NO_TUPLES:
            for function in calls_with(TRIANGLE, 2, row, STILL):
                with self.assertRaises(BadRow) as caught:
                    function()
                self.assertIsNone(caught.exception.place)
        for row in STRANGE:
            if row != ():
                with self.subTest(row=row), self.assertRaises(BadRow) as caught:
                    worths(TRIANGLE, 2, row)
                self.assertEqual(caught.exception.place, 0 if isinstance(row, tuple) else None)

    def test_numbers_of_inputs(self):
        for inputs in NO_NUMBERS:
            for function in (lambda: worths(TRIANGLE, inputs, None),
                             lambda: written(TRIANGLE, inputs, None, None),
                             lambda: degrees(TRIANGLE, inputs, None),
                             lambda: worths(TRIANGLE, inputs, ()),
                             lambda: written(TRIANGLE, inputs, (), STILL),
                             lambda: degrees(TRIANGLE, inputs, ())):
                with self.subTest(inputs=inputs), self.assertRaises(BadNumber):
                    function()

    def test_no_turns(self):
        for turn in STRANGE + ((1, 0), (0, 1, 2, 3), (1, 1, 2), ()):
            with self.subTest(turn=turn):
                with self.assertRaises(BadTurn):
                    written(TRIANGLE, 2, (STEP,), turn)
                with self.assertRaises(BadTurn):
                    writes(TRIANGLE, (0, 1), (STEP,), turn)
        with self.assertRaises(BadTurn):
            written(SQUARE, 1, (), (1, 0, 2, 3))
        with self.assertRaises(BadTurn):
            writes(SQUARE, (0, 0), (), (1, 0, 2, 3))

    def test_no_tables(self):
        for table in NO_TABLES:
            for row, turn in (((STEP,), ROUND), (None, None)):
                with self.subTest(table=table), self.assertRaises(BadTask):
                    writes(TRIANGLE, table, row, turn)

    def test_locks_come_first(self):
        bad = ((0, 1), (0, 0))
        for lock, error in ((bad, BadLock), (None, BadLock), (TOO_LONG[0], TooMany)):
            for rest in ((None, None, None), (2, (), (0, 1)), ((0, 1), (), (0, 1))):
                for function in (lambda: worths(lock, *rest[:2]), lambda: written(lock, *rest),
                                 lambda: writes(lock, *rest), lambda: degrees(lock, *rest[:2])):
                    with self.assertRaises(error):
                        function()

    def test_the_leftmost_error_is_raised(self):
        with self.assertRaises(BadRow):
            written(TRIANGLE, 2, (None,), None)
        with self.assertRaises(BadRow):
            writes(TRIANGLE, (0, 1), [], None)
        # What a lock lacks stands behind all that is wrong with the arguments.
        with self.assertRaises(BadRow):
            degrees(TRIANGLE, 2, (None,))
        with self.assertRaises(BadNumber):
            degrees(TRIANGLE, 0, (None,))
        with self.assertRaises(NotPrime):
            degrees(TRIANGLE, 2, ())

    def test_arguments_are_not_changed(self):
        for value in ([STEP], {0: [STEP]}, ([0, STILL, ODD],), ((0, [0, 1, 2], {}),)):
            before = copy.deepcopy(value)
            for function in calls_with(TRIANGLE, 2, value, STILL):
                with self.assertRaises(BadRow):
                    function()
            self.assertEqual(value, before)


if __name__ == "__main__":
    unittest.main()
