"""Points 1 and 17: a lock at work."""

import copy
import random
import unittest

from lockturns.benches import Dial
from lockturns.errors import BadLock, BadNumber, BadRow, BadTurn, TooMany
from lockturns.locks import all_turns
from samples import (
    LOCKS, NO_STEPS, ODD, ROUND, SQUARE, STEP, STILL, STRANGE, TOO_LONG, TRIANGLE, drawn_row,
    then, undone)

BACK = (2, 0, 1)

NO_BITS = (None, True, False, 0, 1, "", "01", [], [0, 1], {}, {0: 1}, (), (2,), (-1,), (True,),
           (False,), (None,), ("1",), ((1,),), ([1],), (0, 2), (0, True), (1, False), (0, None),
           (0, "1"), (0, [1]), (0, {}), (0, 1, 2), (0, 1, 1, True), (10 ** 30,))


class DialTest(unittest.TestCase):
    def test_example(self):
        dial = Dial(((1, 2, 0),))
        self.assertEqual(
            [dial.turn((1, 2, 0)), dial.step((1, (0, 1, 2), (1, 2, 0)), (0, 1)), dial.home(),
             dial.undo(), dial.done],
            [(1, 2, 0), (2, 0, 1), (1, 2, 0), (1, 2, 0), 1])

    def test_at_the_start(self):
        for name, (lock, *_) in LOCKS.items():
            still = tuple(range(len(lock[0])))
            dial = Dial(lock)
            self.assertEqual((dial.stands, dial.done, dial.home()), (still, 0, still), name)
            # There is nothing to take back.
            self.assertEqual([dial.undo(), dial.undo()], [still, still])
            self.assertEqual((dial.stands, dial.done), (still, 0))
            self.assertEqual(dial.turn(lock[0]), lock[0])
            self.assertEqual((dial.stands, dial.done), (lock[0], 1))

    def test_turn_behind_turn(self):
        dial = Dial(TRIANGLE)
        self.assertEqual(dial.turn(ROUND), ROUND)
        self.assertEqual(dial.turn(ODD), then(ROUND, ODD))
        self.assertNotEqual(then(ROUND, ODD), then(ODD, ROUND))
        self.assertEqual((dial.done, dial.home()), (2, undone(then(ROUND, ODD))))
        # Home is told, not done.
        self.assertEqual((dial.stands, dial.done), (then(ROUND, ODD), 2))
        self.assertEqual(dial.turn(dial.home()), STILL)
        self.assertEqual((dial.done, dial.undo(), dial.undo()), (3, then(ROUND, ODD), ROUND))
        self.assertEqual((dial.undo(), dial.done, dial.undo()), (STILL, 0, STILL))

    def test_still_turns_are_done_too(self):
        dial = Dial(TRIANGLE)
        self.assertEqual([dial.turn(STILL), dial.turn(ODD), dial.turn(STILL)], [STILL, ODD, ODD])
        self.assertEqual((dial.done, dial.undo(), dial.done), (3, ODD, 2))

    def test_steps(self):
        dial = Dial(TRIANGLE)
        self.assertEqual(dial.step((0, ODD, ROUND), (0,)), ODD)
        self.assertEqual(dial.step((1, STILL, ROUND), (0, 1)), then(ODD, ROUND))
        self.assertEqual(dial.step((1, STILL, ROUND), (1, 0)), then(ODD, ROUND))
        self.assertEqual((dial.done, dial.undo(), dial.undo()), (3, then(ODD, ROUND), ODD))
        # Inputs up to 6, and bits of any number of them that has the step's input.
        for own in range(6):
            for many in range(own + 1, 9):
                for bit in (0, 1):
                    bits = tuple(bit if place == own else 1 - bit for place in range(many))
                    dial = Dial(TRIANGLE)
                    self.assertEqual(dial.step((own, ODD, ROUND), bits), (ODD, ROUND)[bit])

    def test_drawn_rows(self):
        drawn = random.Random(29)
        for name, (lock, *_) in LOCKS.items():
            dial = Dial(lock)
            stood = [tuple(range(len(lock[0])))]
            for step in drawn_row(drawn, all_turns(lock), 6, 40):
                bits = tuple(drawn.choice((0, 1)) for _ in range(6))
                kind = drawn.choice(("turn", "step", "undo"))
                if kind == "turn":
                    stood.append(then(stood[-1], step[1]))
                    self.assertEqual(dial.turn(step[1]), stood[-1])
                elif kind == "step":
                    stood.append(then(stood[-1], step[1 + bits[step[0]]]))
                    self.assertEqual(dial.step(step, bits), stood[-1])
                else:
                    stood = stood[:max(len(stood) - 1, 1)]
                    self.assertEqual(dial.undo(), stood[-1])
                self.assertEqual((dial.stands, dial.done, dial.home()),
                                 (stood[-1], len(stood) - 1, undone(stood[-1])), name)

    def test_dials_do_not_share(self):
        one, other = Dial(TRIANGLE), Dial(TRIANGLE)
        one.turn(ODD)
        self.assertEqual((other.stands, other.done), (STILL, 0))


class WrongValuesTest(unittest.TestCase):
    def dial(self):
        dial = Dial(TRIANGLE)
        dial.turn(ROUND)
        return dial

    def test_no_turns(self):
        dial = self.dial()
        for turn in STRANGE + ((1, 0), (0, 1, 2, 3), (1, 1, 2), (), STEP):
            with self.subTest(turn=turn), self.assertRaises(BadTurn):
                dial.turn(turn)
        with self.assertRaises(BadTurn):
            Dial(SQUARE).turn((1, 0, 2, 3))
        # What was refused was not done.
        self.assertEqual((dial.stands, dial.done), (ROUND, 1))

    def test_no_steps(self):
        dial = self.dial()
        for step in NO_STEPS:
            if step == (2, STILL, ODD):
                continue
            for bits in ((0, 1), (1,) * 6, None, ()):
                with self.subTest(step=step), self.assertRaises(BadRow) as caught:
                    dial.step(step, bits)
                self.assertIsNone(caught.exception.place)
        with self.assertRaises(BadRow):
            Dial(SQUARE).step((0, (0, 1, 2, 3), (1, 0, 2, 3)), (0,))
        self.assertEqual((dial.stands, dial.done), (ROUND, 1))

    def test_no_bits(self):
        dial = self.dial()
        for bits in NO_BITS:
            with self.subTest(bits=bits), self.assertRaises(BadNumber):
                dial.step(STEP, bits)
        for own in range(6):
            for many in range(own + 1):
                with self.assertRaises(BadNumber):
                    dial.step((own, STILL, ODD), (1,) * many)
        self.assertEqual((dial.stands, dial.done), (ROUND, 1))

    def test_no_locks(self):
        for lock in STRANGE + ((), ((1, 0),) * 5):
            with self.subTest(lock=lock), self.assertRaises(BadLock):
                Dial(lock)
        for lock in TOO_LONG:
            with self.assertRaises(TooMany) as caught:
                Dial(lock)
            self.assertEqual(caught.exception.most, 240)

    def test_arguments_are_not_changed(self):
        dial = self.dial()
        for value in ([0, STILL, ODD], {0: [1]}, [[1, 0]], ([0], {1: 0})):
            before = copy.deepcopy(value)
            with self.assertRaises(BadTurn):
                dial.turn(value)
            with self.assertRaises(BadRow):
                dial.step(value, value)
            with self.assertRaises(BadNumber):
                dial.step(STEP, value)
            self.assertEqual(value, before)


if __name__ == "__main__":
    unittest.main()
