"""Points 1 and 14: tidy rows, and how few steps a task needs."""

import copy
import itertools
import random
import unittest

from lockturns.errors import BadLock, BadNumber, BadRow, BadTask, TooMany
from lockturns.locks import all_turns
from lockturns.rows import worths
from lockturns.tasks import all_of, table_of
from lockturns.tidy import fewest, tidied
from samples import (
    FIVE, LOCKS, NO_NUMBERS, NO_STEPS, NO_TABLES, NO_TUPLES, ODD, ROUND, SQUARE, STEP, STILL,
    STRANGE, TOO_LONG, TRIANGLE, drawn_row, then)

BACK = (2, 0, 1)


class TidiedTest(unittest.TestCase):
    def test_example(self):
        lock, one, nought = ((1, 2, 3, 0),), (1, 2, 3, 0), (0, 1, 2, 3)
        self.assertEqual(
            tidied(lock, 2, ((0, nought, one), (0, one, one), (1, nought, nought))),
            ((0, (1, 2, 3, 0), (2, 3, 0, 1)),))

    def test_told_rows(self):
        still = (STILL, STILL)
        for row, wanted in (
                ((), ()),
                # Steps of two still turns: alone, at the start, in the middle, at the end.
                (((0,) + still,), ()), (((1,) + still, (0,) + still, (1,) + still), ()),
                (((1,) + still, STEP), (STEP,)), (((0,) + still, STEP), (STEP,)),
                ((STEP, (1,) + still), (STEP,)), ((STEP, (0,) + still), (STEP,)),
                ((STEP, (1,) + still, (1, ODD, ODD)), (STEP, (1, ODD, ODD))),
                # A step that is left out keeps those beside it apart no longer.
                ((STEP, (1,) + still, STEP), ((0, STILL, BACK),)),
                # One still turn is no reason to leave a step out.
                (((0, STILL, ODD), (1, ODD, STILL)), ((0, STILL, ODD), (1, ODD, STILL))),
                # Turn behind turn, for no and for yes.
                (((0, ROUND, ODD), (0, ODD, ROUND)),
                 ((0, then(ROUND, ODD), then(ODD, ROUND)),)),
                ((STEP, STEP), ((0, STILL, BACK),)),
                (((0, STILL, ODD), (0, ODD, STILL), (0, ROUND, ROUND)),
                 ((0, then(ODD, ROUND), then(ODD, ROUND)),)),
                # Steps that become still when they are joined.
                ((STEP, STEP, STEP), ()), (((1, ODD, ODD), (1, ODD, ODD)), ()),
                ((STEP, STEP, STEP, STEP), (STEP,)),
                ((STEP, (1, ODD, ODD), (1, ODD, ODD)), (STEP,)),
                (((1, ODD, ODD), (1, ODD, ODD), STEP), (STEP,)),
                ((STEP, (1, ODD, ODD), (1, ODD, ODD), STEP), ((0, STILL, BACK),)),
                ((STEP, (1, ROUND, ODD), (1, BACK, ODD), (0, STILL, BACK), (1, ODD, ODD)),
                 ((1, ODD, ODD),)),
                (((0, ODD, ODD), STEP, (1, ODD, ODD), (1, ODD, ODD), (0, STILL, BACK)),
                 ((0, ODD, ODD),)),
                # Other inputs between keep steps apart.
                ((STEP, (1, ODD, ODD), STEP), (STEP, (1, ODD, ODD), STEP))):
            with self.subTest(row=row):
                self.assertEqual(tidied(TRIANGLE, 2, row), wanted)

    def reduced(self, drawn, row):
        """The row that comes of joining and leaving out at any places, as long as it can be."""
        row = list(row)
        while True:
            size = len(row[0][1]) if row else 0
            still = (tuple(range(size)),) * 2
            ways = [(place, 1) for place, step in enumerate(row) if step[1:] == still]
            ways += [(place, 2) for place in range(len(row) - 1)
                     if row[place][0] == row[place + 1][0]]
            if not ways:
                return tuple(row)
            place, many = drawn.choice(ways)
            if many == 1:
                del row[place]
            else:
                one, other = row[place], row[place + 1]
                row[place:place + 2] = [(one[0], then(one[1], other[1]), then(one[2], other[2]))]

    def test_drawn_rows(self):
        drawn = random.Random(24)
        for name in ("two places", "triangle", "square", "even five", "two and three round"):
            lock = LOCKS[name][0]
            turns = all_turns(lock)
            for _ in range(60):
                inputs = drawn.randint(1, 3)
                few = drawn.sample(turns, 2) + [tuple(range(len(lock[0])))]
                row = drawn_row(drawn, few, inputs, drawn.randint(0, 14))
                tidy = tidied(lock, inputs, row)
                with self.subTest(name=name, row=row):
                    self.assertIsInstance(tidy, tuple)
                    self.assertEqual(tidy, self.reduced(drawn, row))
                    self.assertEqual(worths(lock, inputs, tidy), worths(lock, inputs, row))
                    self.assertEqual(tidied(lock, inputs, tidy), tidy)

    def test_long_rows(self):
        drawn = random.Random(25)
        row = drawn_row(drawn, all_turns(TRIANGLE), 6, 6000)
        tidy = tidied(TRIANGLE, 6, row)
        self.assertLess(len(tidy), 6000)
        self.assertEqual(worths(TRIANGLE, 6, tidy), worths(TRIANGLE, 6, row))
        self.assertEqual(tidied(TRIANGLE, 1, (STEP,) * 6000), ())

    def test_wrong_values(self):
        for value in NO_STEPS:
            for row, place in (((value,), 0), ((STEP, value), 1), ((STEP, STEP, value, None), 2)):
                with self.subTest(value=value), self.assertRaises(BadRow) as caught:
                    tidied(TRIANGLE, 2, row)
                self.assertEqual(caught.exception.place, place)
        for row in NO_TUPLES:
            with self.assertRaises(BadRow) as caught:
                tidied(TRIANGLE, 2, row)
            self.assertIsNone(caught.exception.place)
        with self.assertRaises(BadRow) as caught:
            tidied(TRIANGLE, 1, ((1, STILL, STILL),))
        self.assertEqual(caught.exception.place, 0)
        for inputs in NO_NUMBERS:
            for row in ((), None, (None,)):
                with self.subTest(inputs=inputs), self.assertRaises(BadNumber):
                    tidied(TRIANGLE, inputs, row)
        for rest in ((2, ()), (0, None)):
            for lock in STRANGE:
                with self.subTest(lock=lock), self.assertRaises(BadLock):
                    tidied(lock, *rest)
            for lock in TOO_LONG:
                with self.assertRaises(TooMany) as caught:
                    tidied(lock, *rest)
                self.assertEqual(caught.exception.most, 240)

    def test_arguments_are_not_changed(self):
        for value in ([STEP], {0: [STEP]}, ([0, STILL, ODD],), ((0, [0, 1, 2], {}),)):
            before = copy.deepcopy(value)
            with self.assertRaises(BadRow):
                tidied(TRIANGLE, 2, value)
            self.assertEqual(value, before)


def levels(lock, inputs, nos, most):
    """For 0 steps, 1 and so on: all tuples that rows of at most as many steps are worth.

    It ends where there are no more, or with the first set of more than so many.
    """
    turns = all_turns(lock)
    steps = [worths(lock, inputs, ((own, no, yes),))
             for own in range(inputs) for no in nos for yes in turns]
    newest = {worths(lock, inputs, ())}
    found = [set(newest)]
    while newest and len(found[-1]) <= most:
        known, level, newest = set(found[-1]), newest, set()
        for reached, step in itertools.product(level, steps):
            longer = tuple(then(one, other) for one, other in zip(reached, step))
            if longer not in known:
                known.add(longer)
                newest.add(longer)
            if len(known) > most:
                break
        found.append(known)
    return found


def written_by(reached):
    """The tables with a yes that a tuple of turns writes."""
    return {tuple(int(one == turn) for one in reached) for turn in reached}


def by_definition(found, table, most):
    """fewest, from the levels of rows with still turns for no."""
    if 1 not in table:
        return 0
    for many, tuples in enumerate(found):
        if len(tuples) > most:
            return "too many"
        if any(table in written_by(reached) for reached in tuples):
            return many
    return None


class FewestTest(unittest.TestCase):
    def fewest_of(self, lock, table):
        try:
            return fewest(lock, table)
        except TooMany as error:
            self.assertEqual(error.most, 20000)
            return "too many"

    def test_example(self):
        self.assertEqual([fewest(((1, 2, 3, 0),), (0, 0, 0, 1)), fewest(((1, 0),), (0, 0, 0, 1))],
                         [2, None])

    def test_no_yes_and_always_yes(self):
        for name, (lock, *_) in LOCKS.items():
            for inputs in range(1, 7):
                with self.subTest(name=name):
                    self.assertEqual(fewest(lock, (0,) * 2 ** inputs), 0)
                    self.assertEqual(fewest(lock, (1,) * 2 ** inputs), 0)

    def test_against_all_rows_with_any_turns(self):
        # Here any turn may stand for no, as the document says of rows.
        for name, inputs in (("two places", 1), ("two places", 2), ("two places", 3),
                             ("three round", 1), ("three round", 2), ("four round", 1),
                             ("four round", 2), ("twos", 1), ("triangle", 1), ("triangle", 2),
                             ("square", 1), ("two and three round", 2), ("even four", 1)):
            lock = LOCKS[name][0]
            found = levels(lock, inputs, all_turns(lock), 20000)
            for table in itertools.product((0, 1), repeat=2 ** inputs):
                with self.subTest(name=name, table=table):
                    self.assertEqual(fewest(lock, table), by_definition(found, table, 20000))

    def test_the_still_lock(self):
        for table in itertools.product((0, 1), repeat=4):
            self.assertEqual(fewest(((0, 1),), table), None if len(set(table)) > 1 else 0)

    def test_told_tables(self):
        for inputs in range(1, 7):
            for own in range(inputs):
                for text in (f"x{own}", f"not x{own}"):
                    for name in ("two places", "triangle", "five beside two"):
                        self.assertEqual(fewest(LOCKS[name][0], table_of(inputs, text)), 1)
            if inputs > 1:
                self.assertIsNone(fewest(((1, 0),), all_of(inputs)))
        odd = "x0"
        for own in range(1, 6):
            odd = f"({odd} xor x{own})"
            self.assertEqual(fewest(((1, 0),), table_of(own + 1, odd)), own + 1)
        self.assertEqual(fewest(TRIANGLE, (0, 0, 0, 1)), 2)
        self.assertEqual(fewest(TRIANGLE, (0, 1, 1, 0)), 2)
        self.assertEqual(fewest(((1, 2, 3, 4, 5, 6, 0),), all_of(5)), 5)
        self.assertEqual(fewest(((1, 2, 3, 4, 0),), all_of(4)), 4)
        # Five inputs are more than the told number.
        self.assertIsNone(fewest(((1, 2, 3, 4, 0),), all_of(5)))

    def check_levels(self, name, inputs, tables):
        lock = LOCKS[name][0]
        still = tuple(range(len(lock[0])))
        found = levels(lock, inputs, (still,), 20000)
        seen = []
        for table in tables:
            with self.subTest(name=name, table=table):
                wanted = by_definition(found, table, 20000)
                self.assertEqual(self.fewest_of(lock, table), wanted)
                seen.append(wanted)
        return seen

    def test_too_many_exactly_where_it_is_asked_for(self):
        drawn = random.Random(26)
        seen = []
        for name, inputs in (("square", 2), ("octagon", 2), ("triangle", 2), ("even four", 2),
                             ("four", 2), ("even five", 2), ("twenty of five", 2),
                             ("five beside two", 2), ("seven lines", 1)):
            seen += self.check_levels(name, inputs,
                                      itertools.product((0, 1), repeat=2 ** inputs))
        for name, inputs in (("triangle", 3), ("even four", 3), ("square", 3), ("octagon", 3),
                             ("twenty of five", 3), ("three round", 4), ("twos", 3)):
            tables = [tuple(drawn.choice((0, 1)) for _ in range(2 ** inputs)) for _ in range(6)]
            seen += self.check_levels(name, inputs, tables + [all_of(inputs)])
        for wanted in (0, 1, 2, 3, None, "too many"):
            self.assertIn(wanted, seen)

    def test_too_many_though_one_step_more_would_do(self):
        # Rows of two steps write these, but come to more than 20000 tuples already.
        lock = LOCKS["five beside two"][0]
        for table in ((0, 0, 0, 1), (0, 1, 1, 0)):
            with self.assertRaises(TooMany) as caught:
                fewest(lock, table)
            self.assertEqual(caught.exception.most, 20000)
            self.assertEqual(fewest(FIVE, table), 2)
        # One step comes to 6 times 239 tuples and one, which is not too many.
        self.assertEqual(fewest(lock, table_of(6, "x5")), 1)
        with self.assertRaises(TooMany):
            fewest(lock, all_of(6))

    def test_too_many_comes_behind_the_arguments(self):
        for lock in (LOCKS["five beside two"][0], SQUARE, ((0, 1),)):
            for table in NO_TABLES:
                with self.subTest(table=table), self.assertRaises(BadTask):
                    fewest(lock, table)

    def test_locks_come_first(self):
        for table in ((0, 1), None, (0,) * 63 + (1,)):
            for lock in STRANGE:
                with self.subTest(lock=lock), self.assertRaises(BadLock):
                    fewest(lock, table)
            for lock in TOO_LONG:
                with self.assertRaises(TooMany) as caught:
                    fewest(lock, table)
                self.assertEqual(caught.exception.most, 240)


if __name__ == "__main__":
    unittest.main()
