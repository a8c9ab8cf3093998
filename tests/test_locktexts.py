"""Points 1, 15 and 16: texts of locks and rows."""

import random
import unittest

from lockturns.errors import BadLine, BadLock, BadNumber, BadRow, BadString, TooMany
from lockturns.locks import all_turns
from lockturns.locktexts import read_lock, read_row, write_lock, write_row
from samples import (
    LOCKS, NO_NUMBERS, NO_STEPS, NO_TEXTS, NO_TUPLES, ODD, ROUND, SQUARE, STEP, STILL, STRANGE,
    TOO_LONG, TRIANGLE, drawn_row, small_locks)

# A text, and the line and the place that BadLine tells.
BAD_LOCKS = (
    # No words: the line behind the last one.
    ("", 2, 1), (" ", 2, 1), ("     ", 2, 1), ("\n", 3, 1), ("\n\n\n", 5, 1), ("  \n ", 3, 1),
    # Another first word.
    ("x", 1, 1), ("1 0", 1, 1), ("Turn 1 0", 1, 1), ("turns 1 0", 1, 1), ("turn1 0", 1, 1),
    ("turn1 0 1", 1, 1), ("TURN 1 0", 1, 1), ("| turn 1 0", 1, 1), ("\n\nx 1 0", 3, 1),
    ("turn 1 0\nx 1 0", 2, 1), ("turn 1 0\n\n1 0", 3, 1), ("turn 1 0\n0 1 turn", 2, 1),
    ("turn 1 0\nturn 0 1\n  tern 0 1", 3, 1), ("x0 no 0 1 yes 1 0", 1, 1),
    # A lacking word.
    ("turn", 1, 2), ("  turn  ", 1, 2), ("turn 0", 1, 3), ("turn 1", 1, 3), ("\nturn 0", 2, 3),
    ("turn 1 0\nturn", 2, 2), ("turn 1 0\nturn 1", 2, 3), ("turn 1 2 0\nturn 0 2", 2, 4),
    ("turn 1 2 0\n\n \nturn 1 0", 4, 4), ("turn 8 7 6 5 4 3 2 1 0\nturn 8 7 6 5 4 3 2 1", 2, 10),
    # A needless word.
    ("turn 1 0\nturn 1 0 2", 2, 4), ("turn 1 0\nturn 1 0 0", 2, 4), ("turn 1 0\nturn 1 0 x", 2, 4),
    ("turn 1 2 0\nturn 1 2 0 turn", 2, 5), ("turn 1 0\nturn 0 1 turn 0 1", 2, 4),
    # A first line with too many words: a tenth place cannot stand.
    ("turn 0 1 2 3 4 5 6 7 8 9", 1, 11), ("turn 0 1 2 3 4 5 6 7 8 0", 1, 11),
    ("turn 0 1 2 3 4 5 6 7 8 9 9 9", 1, 11), ("turn 8 7 6 5 4 3 2 1 0 x", 1, 11),
    ("turn 9 0 1 2 3 4 5 6 7 8", 1, 2), ("turn 0 1 2 3 4 5 6 7 9", 1, 10),
    # Places that are too large, or stand twice.
    ("turn 1 1", 1, 3), ("turn 0 0", 1, 3), ("turn 2 0", 1, 2), ("turn 0 2", 1, 3),
    ("turn 1 2", 1, 3), ("turn 9 9", 1, 2), ("turn 0 1 3", 1, 4), ("turn 3 1 0", 1, 2),
    ("turn 1 0 1", 1, 4), ("turn 1 2 0\nturn 1 3 0", 2, 3), ("turn 2", 1, 2),
    ("turn 1 2 0\nturn 1 2 1", 2, 4), ("turn 1 2 0\nturn 1 1", 2, 3),
    # Places that are no single figure.
    ("turn 1 x", 1, 3), ("turn x 0", 1, 2), ("turn 01 0", 1, 2), ("turn 1 00", 1, 3),
    ("turn 10", 1, 2), ("turn 1 10", 1, 3), ("turn +1 0", 1, 2), ("turn 1 +0", 1, 3),
    ("turn -1 0", 1, 2), ("turn 1 -0", 1, 3), ("turn 1\t0", 1, 2), ("turn\t1 0", 1, 1),
    ("turn 1 0\t", 1, 3), ("\tturn 1 0", 1, 1), ("turn 1 0\r", 1, 3), ("turn 1 0\r\n", 1, 3),
    ("turn 1 \u0660", 1, 3), ("turn \u0661 0", 1, 2), ("turn 1 \u00b2", 1, 3),
    ("turn \uff11 0", 1, 2), ("turn 1\u00a00", 1, 2), ("turn 1,0", 1, 2), ("turn 1, 0", 1, 2),
    ("turn (1 0)", 1, 2), ("turn 1.0 0", 1, 2), ("turn 1_0 0", 1, 2), ("turn 1 0\ud800", 1, 3),
    ("turn turn 1 0", 1, 2), ("turn 1 turn", 1, 3), ("turn 1 2 0\n\t", 2, 1),
    # A fifth turn.
    ("turn 1 0\n" * 4 + "turn 1 0", 5, 1), ("turn 1 0\n\n" * 4 + "turn 1 0", 9, 1),
    ("turn 1 0\n" * 4 + "  x", 5, 1), ("turn 1 0\n" * 4 + "\n\n  turn 7 7 7", 7, 1),
    ("turn 1 0\n" * 6, 5, 1),
    # More faults than one: the first word of the first line that has one.
    ("turn 2 2\nx", 1, 2), ("turn 1 1 1", 1, 3), ("x y", 1, 1), ("turn x y z", 1, 2),
    ("turn 1 0 x\nturn 1 0", 1, 4), ("turn 1 0\nturn 1 1\nturn 2 2", 2, 3),
    ("turn 1 1\n" + "turn 1 0\n" * 4, 1, 3), ("turn 1 0\n" * 3 + "turn 1\nturn 0 1", 4, 3),
    ("turn 1 0\nturn 1 1 0", 2, 3), ("turn 1 0\nturn 0 x 1", 2, 3),
)

# A text of a row of TRIANGLE for two inputs, and the line and the place that BadLine tells.
GOOD = "x0 no 0 1 2 yes 1 2 0"
BAD_ROWS = (
    # The input's word.
    ("x", 1, 1), ("y0 no 0 1 2 yes 1 2 0", 1, 1), ("x 0 no 0 1 2 yes 1 2 0", 1, 1),
    ("x2 no 0 1 2 yes 1 2 0", 1, 1), ("x6 no 0 1 2 yes 1 2 0", 1, 1), ("X0 no 0 1 2", 1, 1),
    ("x00 no 0 1 2 yes 1 2 0", 1, 1), ("x01 no 0 1 2 yes 1 2 0", 1, 1), ("0 no 0 1 2", 1, 1),
    ("x+0 no 0 1 2 yes 1 2 0", 1, 1), ("x-0 no 0 1 2 yes 1 2 0", 1, 1), ("x-1 no 0 1 2", 1, 1),
    ("x10 no 0 1 2 yes 1 2 0", 1, 1), ("x\u0660 no 0 1 2", 1, 1), ("x0no 0 1 2", 1, 1),
    ("no 0 1 2 yes 1 2 0", 1, 1), ("turn 1 2 0", 1, 1), ("\n" + GOOD + "\n\nx2", 4, 1),
    ("x0\tno 0 1 2 yes 1 2 0", 1, 1), ("x0; no 0 1 2 yes 1 2 0", 1, 1),
    # no and yes.
    ("x0", 1, 2), ("x0 yes 0 1 2 no 1 2 0", 1, 2), ("x0 0 1 2 yes 1 2 0", 1, 2),
    ("x0 No 0 1 2 yes 1 2 0", 1, 2), ("x0 no", 1, 3), ("x0 no 0 1 2", 1, 6),
    ("x0 no yes 1 2 0", 1, 3), ("x0 no 0 1 2 1 2 0", 1, 6), ("x0 no 0 1 2 no 1 2 0", 1, 6),
    ("x0 no 0 1 2 yes", 1, 7), ("x0 no 0 1 2 yes yes", 1, 7), ("x0 no 0 1 2 YES 1 2 0", 1, 6),
    # Places that are no permutation.
    ("x0 no 0 1", 1, 5), ("x0 no 0 1 yes 1 2 0", 1, 5), ("x0 no 0 1 3 yes 1 2 0", 1, 5),
    ("x0 no 0 0 2 yes 1 2 0", 1, 4), ("x0 no 3 1 2 yes 1 2 0", 1, 3), ("x0 no 01 1 2", 1, 3),
    ("x0 no 0 1 2 3 yes 1 2 0", 1, 6), ("x0 no 0 1 2 yes 1 2", 1, 9),
    ("x0 no 0 1 2 yes 1 2 1", 1, 9), ("x0 no 0 1 2 yes 1 1 0", 1, 8),
    ("x0 no 0 1 2 yes +1 2 0", 1, 7), ("x0 no 0 1 2 yes 1 -2 0", 1, 8),
    ("x0 no 0 1 2 yes 1 2 \u0660", 1, 9), ("x0 no 0 1 2 yes 1 2\t0", 1, 8),
    # A needless word.
    (GOOD + " 1", 1, 10), (GOOD + " x0", 1, 10), (GOOD + " " + GOOD, 1, 10), (GOOD + "; x0", 1, 9),
    # The first word of the first line that has a fault.
    (GOOD + "\n" + GOOD + "\nx0 no 0 1\nx7", 3, 5), ("x7 yes 5\nx9", 1, 1),
    (GOOD + "\r\n" + GOOD, 1, 9),
)


class LockTextTest(unittest.TestCase):
    def test_example(self):
        self.assertEqual(
            [read_lock("turn 1 2 0\nturn 1 0 2"), write_row(((1, 0),), 1, ((0, (0, 1), (1, 0)),))],
            [((1, 2, 0), (1, 0, 2)), "x0 no 0 1 yes 1 0"])
        with self.assertRaises(BadLine) as caught:
            read_lock("turn 1 1")
        self.assertEqual((caught.exception.line, caught.exception.place), (1, 3))

    def test_written_locks(self):
        self.assertEqual(write_lock(((1, 0),)), "turn 1 0")
        self.assertEqual(write_lock(TRIANGLE), "turn 1 2 0\nturn 1 0 2")
        self.assertEqual(write_lock(((8, 7, 6, 5, 4, 3, 2, 1, 0),)), "turn 8 7 6 5 4 3 2 1 0")
        for lock, *_ in LOCKS.values():
            text = write_lock(lock)
            self.assertEqual(text, "\n".join(
                "turn " + " ".join(str(place) for place in given) for given in lock))

    def test_read_of_written_locks(self):
        for lock in [row[0] for row in LOCKS.values()] + list(small_locks()):
            self.assertEqual(read_lock(write_lock(lock)), lock)

    def test_spaces_and_void_lines(self):
        for text in ("turn 1 0", "  turn 1 0", "turn 1 0   ", "   turn    1     0  ",
                     "\nturn 1 0", "turn 1 0\n", "\n\n\nturn 1 0\n\n", "   \nturn 1 0\n  "):
            self.assertEqual(read_lock(text), ((1, 0),), text)
        for text in ("turn 1 2 0\n\nturn 1 0 2", "\n turn 1 2 0 \n   \n\n  turn  1  0  2\n\n",
                     "    \n\n turn 1   2 0\nturn 1 0 2"):
            self.assertEqual(read_lock(text), TRIANGLE, text)
        self.assertEqual(read_lock("turn 1 0\n\n" * 4), ((1, 0),) * 4)

    def test_bad_lines(self):
        for text, line, place in BAD_LOCKS:
            with self.subTest(text=text), self.assertRaises(BadLine) as caught:
                read_lock(text)
            self.assertEqual((caught.exception.line, caught.exception.place), (line, place))

    def test_a_lock_with_too_many_turns(self):
        # Reading asks nothing of the turns that are made.
        for lock in TOO_LONG:
            text = "\n".join("turn " + " ".join(map(str, given)) for given in lock)
            self.assertEqual(read_lock(text), lock)
            with self.assertRaises(TooMany) as caught:
                write_lock(lock)
            self.assertEqual(caught.exception.most, 240)

    def test_wrong_values(self):
        for text in NO_TEXTS:
            with self.subTest(text=text), self.assertRaises(BadString):
                read_lock(text)
        for lock in STRANGE + ((), ((1, 0),) * 5, "turn 1 0"):
            with self.subTest(lock=lock), self.assertRaises(BadLock):
                write_lock(lock)


class RowTextTest(unittest.TestCase):
    def test_written_rows(self):
        self.assertEqual(write_row(TRIANGLE, 2, ()), "")
        self.assertEqual(write_row(TRIANGLE, 2, (STEP, (1, ODD, ROUND))),
                         "x0 no 0 1 2 yes 1 2 0\nx1 no 1 0 2 yes 1 2 0")

    def test_read_of_written_rows(self):
        drawn = random.Random(27)
        for name, (lock, *_) in LOCKS.items():
            for inputs in range(1, 7):
                row = drawn_row(drawn, all_turns(lock), inputs, drawn.randint(0, 12))
                text = write_row(lock, inputs, row)
                with self.subTest(name=name, row=row):
                    self.assertEqual(read_row(lock, inputs, text), row)
                    self.assertEqual(text.count("\n"), max(len(row) - 1, 0))

    def test_a_row_of_6000_steps(self):
        row = drawn_row(random.Random(28), all_turns(SQUARE), 6, 6000)
        self.assertEqual(read_row(SQUARE, 6, write_row(SQUARE, 6, row)), row)

    def test_texts_without_words(self):
        for text in ("", " ", "    ", "\n", "\n\n\n", "  \n   \n"):
            self.assertEqual(read_row(TRIANGLE, 2, text), ())

    def test_spaces_and_void_lines(self):
        step = (1, ODD, ROUND)
        for text in ("  x1 no 1 0 2 yes 1 2 0", "x1  no  1  0  2  yes  1  2  0   ",
                     "\n\nx1 no 1 0 2 yes 1 2 0\n  \n"):
            self.assertEqual(read_row(TRIANGLE, 2, text), (step,), text)
        self.assertEqual(read_row(TRIANGLE, 2, f"{GOOD}\n\n   \n {GOOD} \n"), (STEP, STEP))

    def test_each_input(self):
        for inputs in range(1, 7):
            for own in range(8):
                text = f"x{own} no 0 1 2 yes 1 2 0"
                if own < inputs:
                    self.assertEqual(read_row(TRIANGLE, inputs, text), ((own, STILL, ROUND),))
                else:
                    with self.assertRaises(BadLine) as caught:
                        read_row(TRIANGLE, inputs, text)
                    self.assertEqual((caught.exception.line, caught.exception.place), (1, 1))

    def check_bad(self, lock, inputs, text, line, place):
        with self.subTest(text=text[-200:]), self.assertRaises(BadLine) as caught:
            read_row(lock, inputs, text)
        self.assertEqual((caught.exception.line, caught.exception.place), (line, place))

    def test_bad_lines(self):
        for text, line, place in BAD_ROWS:
            self.check_bad(TRIANGLE, 2, text, line, place)

    def test_permutations_that_are_no_turn(self):
        # The square is turned over, but two of its corners alone are never swapped.
        for text, line, place in (
                ("x0 no 1 0 2 3 yes 0 1 2 3", 1, 3), ("x0 no 0 1 2 3 yes 1 0 2 3", 1, 8),
                ("x0 no 1 0 2 3 yes 1 0 2 3", 1, 3), ("x0 no 1 0 2 3", 1, 3),
                ("x0 no 1 0 2 3 nay", 1, 3), ("x0 no 1 0 2 2 yes 0 1 2 3", 1, 6),
                ("x0 no 0 1 2 3 yes 1 0 2", 1, 11), ("x0 no 0 1 2 3 yes 1 0 2 3 4", 1, 8),
                ("\nx0 no 3 2 1 0 yes 1 2 3 0\nx1 no 0 1 3 2 yes 0 1 2 3", 3, 3)):
            self.check_bad(SQUARE, 2, text, line, place)

    def test_the_6001st_line_with_words(self):
        lines = [GOOD] * 6000
        self.assertEqual(read_row(TRIANGLE, 2, "\n\n".join(lines) + "\n\n"), (STEP,) * 6000)
        self.check_bad(TRIANGLE, 2, "\n".join(lines + [GOOD]), 6001, 1)
        self.check_bad(TRIANGLE, 2, "\n \n".join(lines + [GOOD]), 12001, 1)
        # It comes ahead of all else, whatever its words are.
        self.check_bad(TRIANGLE, 2, "\n".join(["x"] + lines), 6001, 1)
        self.check_bad(TRIANGLE, 2, "\n".join(["", "x"] + lines + ["x", "y"]), 6002, 1)
        self.check_bad(TRIANGLE, 2, "\n".join(lines + ["x"]), 6001, 1)
        self.check_bad(TRIANGLE, 2, "\n".join(lines[1:] + ["x"]), 6000, 1)

    def test_wrong_values(self):
        for text in NO_TEXTS:
            with self.subTest(text=text), self.assertRaises(BadString):
                read_row(TRIANGLE, 2, text)
        for value in NO_STEPS:
            with self.subTest(value=value), self.assertRaises(BadRow) as caught:
                write_row(TRIANGLE, 2, (STEP, value))
            self.assertEqual(caught.exception.place, 1)
        for row in NO_TUPLES:
            with self.assertRaises(BadRow) as caught:
                write_row(TRIANGLE, 2, row)
            self.assertIsNone(caught.exception.place)

    def test_the_leftmost_error_is_raised(self):
        for function in (write_row, read_row):
            for inputs in NO_NUMBERS:
                for rest in ((), "", None, "x"):
                    with self.subTest(inputs=inputs), self.assertRaises(BadNumber):
                        function(TRIANGLE, inputs, rest)
            for lock in STRANGE:
                for inputs in (2, 0):
                    with self.subTest(lock=lock), self.assertRaises(BadLock):
                        function(lock, inputs, None)
            for lock in TOO_LONG:
                with self.assertRaises(TooMany) as caught:
                    function(lock, 0, None)
                self.assertEqual(caught.exception.most, 240)


if __name__ == "__main__":
    unittest.main()
