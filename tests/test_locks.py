"""Points 1, 2 and 3: locks, their turns, and products of them."""

import copy
import itertools
import unittest

from lockturns.errors import BadLock, BadTurn, TooMany
from lockturns.locks import all_turns, is_made, join, rounds, swapped, undo, word_for
from samples import (
    FIVE, LOCKS, SQUARE, STRANGE, TOO_LONG, TRIANGLE, closed, commutator, small_locks, then,
    undone)

STILL = (0, 1, 2)
ODD = (1, 0, 2)
ROUND = (1, 2, 0)

# Each function with a lock argument, and good other arguments for TRIANGLE.
CALLS = (
    (all_turns, ()),
    (is_made, (ROUND,)),
    (join, ((ROUND, ODD),)),
    (undo, (ROUND,)),
    (rounds, (ROUND,)),
    (swapped, (ROUND, ODD)),
    (word_for, (ROUND,)),
)

# What is no lock, and the place that BadLock tells.
BAD_LOCKS = (
    ((), None),
    (((1, 0),) * 5, None),
    ([(1, 0)], None),
    ("ab", None),
    ({0: (1, 0)}, None),
    (None, None),
    (True, None),
    (7, None),
    (((0,),), 0),
    (((),), 0),
    (((0,), (1, 0)), 0),
    ((tuple(range(10)),), 0),
    (((1, 0), (0,)), 1),
    (((1, 0), ()), 1),
    ((tuple(range(9)), tuple(range(10))), 1),
    (((1, 0), (1, 2, 0)), 1),
    (((1, 2, 0), (1, 0)), 1),
    (((1, 0), (0, 1), (1, 0, 2), (0, 0)), 2),
    (((1, 0), (0, 1), (1, 0), (0, 0)), 3),
    (((0, 1), (0, 0)), 1),
    (((0, 0), (0, 0)), 0),
    (((0, 2), (0, 1)), 0),
    (((-1, 0),), 0),
    (((1, 2),), 0),
    (((1, 0), (1, 2)), 1),
    (((1, 0), (-1, -2)), 1),
    (((True, 0),), 0),
    (((1, False),), 0),
    (((1, 0), (1, False)), 1),
    (((1, 0), (True, False)), 1),
    (((1, 0), None), 1),
    (((1, 0), [0, 1]), 1),
    (([1, 0], (0, 1)), 0),
    (((1, 0), "10"), 1),
    (("10",), 0),
    (((1, 0), {1: 0, 0: 1}), 1),
    (({0: 0, 1: 1},), 0),
    (((1, 0), ("1", "0")), 1),
    (((1, None),), 0),
    (((1, 0), ([1], 0)), 1),
    (((1, 0), ((1,), (0,))), 1),
    ((1, 0), 0),
    (((0, 1, 10 ** 40),), 0),
)


class LockTest(unittest.TestCase):
    def test_examples(self):
        lock = TRIANGLE
        self.assertEqual(
            [len(all_turns(lock)), join(lock, lock), rounds(lock, (1, 2, 0)),
             swapped(lock, (1, 2, 0), (1, 0, 2)), word_for(lock, (0, 2, 1))],
            [6, (0, 2, 1), 3, (2, 0, 1), (0, 1)])
        with self.assertRaises(BadLock) as caught:
            all_turns(((0, 1), (0, 0)))
        self.assertEqual(caught.exception.place, 1)

    def test_bad_locks_in_every_function(self):
        for function, others in CALLS:
            for lock, place in BAD_LOCKS:
                with self.subTest(function=function.__name__, lock=lock):
                    with self.assertRaises(BadLock) as caught:
                        function(lock, *others)
                    self.assertEqual(caught.exception.place, place)

    def test_strange_locks(self):
        for function, others in CALLS:
            for value in STRANGE:
                with self.subTest(function=function.__name__, value=value):
                    with self.assertRaises(BadLock):
                        function(value, *others)

    def test_most_and_fewest_given_turns_and_places(self):
        self.assertEqual(all_turns(((1, 0),)), ((0, 1), (1, 0)))
        self.assertEqual(all_turns(((0, 1),) * 4), ((0, 1),))
        self.assertEqual(all_turns((tuple(range(9)),)), (tuple(range(9)),))
        self.assertEqual(len(all_turns(LOCKS["twos"][0])), 16)

    def test_a_lock_may_have_240_turns_and_no_more(self):
        for name in ("five beside two", "even five beside two and two"):
            self.assertEqual(len(all_turns(LOCKS[name][0])), 240)
        for lock in TOO_LONG:
            still = tuple(range(len(lock[0])))
            for function, others in CALLS:
                arguments = [((still,) if function is join else still) for _ in others]
                with self.subTest(function=function.__name__, lock=lock):
                    with self.assertRaises(TooMany) as caught:
                        function(lock, *arguments)
                    self.assertEqual(caught.exception.most, 240)

    def test_the_lock_is_asked_for_first(self):
        for function, others in CALLS[1:]:
            wrong = [None for _ in others]
            with self.assertRaises(BadLock):
                function(((0, 1), (0, 0)), *wrong)
            with self.assertRaises(BadLock):
                function(TOO_LONG[0] + (None,), *wrong)
            with self.assertRaises(TooMany):
                function(TOO_LONG[0], *wrong)

    def test_a_bad_lock_is_bad_before_it_is_too_long(self):
        with self.assertRaises(BadLock) as caught:
            all_turns(TOO_LONG[2] + ((0, 0, 1, 2, 3, 4),))
        self.assertEqual(caught.exception.place, 2)


class TurnsTest(unittest.TestCase):
    def test_all_turns_by_definition(self):
        for lock in small_locks():
            turns = all_turns(lock)
            self.assertIsInstance(turns, tuple)
            self.assertEqual(turns, tuple(sorted(closed(lock, len(lock[0])))))

    def test_all_turns_of_the_samples(self):
        for name, (lock, many, _, _, _) in LOCKS.items():
            with self.subTest(name=name):
                turns = all_turns(lock)
                self.assertEqual(len(turns), many)
                self.assertEqual(turns, tuple(sorted(closed(lock, len(lock[0])))))

    def test_is_made(self):
        for name in ("square", "even four", "triangle and two", "still"):
            lock = LOCKS[name][0]
            turns = closed(lock, len(lock[0]))
            for turn in itertools.permutations(range(len(lock[0]))):
                self.assertIs(is_made(lock, turn), turn in turns)

    def test_is_made_of_no_permutation_of_so_many_places(self):
        wrong = ((0, 1), (0, 1, 2, 3), (0, 0, 1), (1, 2, 3), (0, 1, -1), ())
        for turn in wrong + STRANGE:
            with self.subTest(turn=turn), self.assertRaises(BadTurn):
                is_made(TRIANGLE, turn)

    def test_no_turns_of_the_lock(self):
        outside = ((1, 0, 2, 3), (0, 2, 1, 3), (1, 2, 0, 3))
        for turn in outside:
            self.assertIs(is_made(SQUARE, turn), False)
        for turn in outside + STRANGE + ((1, 0), (0, 1, 2), (0, 1, 2, 3, 4), ()):
            with self.subTest(turn=turn):
                for function in (undo, rounds, word_for):
                    with self.assertRaises(BadTurn):
                        function(SQUARE, turn)
                with self.assertRaises(BadTurn):
                    swapped(SQUARE, turn, SQUARE[0])
                with self.assertRaises(BadTurn):
                    swapped(SQUARE, SQUARE[0], turn)
                for turns in ((turn,), (SQUARE[0], turn), (turn, SQUARE[0])):
                    with self.assertRaises(BadTurn):
                        join(SQUARE, turns)

    def test_join_of_no_tuple_of_turns(self):
        for turns in STRANGE + (SQUARE[0], list(SQUARE), [], [SQUARE[0]], "", {}):
            with self.subTest(turns=turns), self.assertRaises(BadTurn):
                join(SQUARE, turns)


class ProductTest(unittest.TestCase):
    def test_join(self):
        turns = all_turns(TRIANGLE)
        for one in turns:
            self.assertEqual(join(TRIANGLE, (one,)), one)
            for other in turns:
                self.assertEqual(join(TRIANGLE, (one, other)), then(one, other))
                for third in turns:
                    self.assertEqual(join(TRIANGLE, (one, other, third)),
                                     then(then(one, other), third))

    def test_join_does_the_first_one_first(self):
        self.assertEqual(join(TRIANGLE, (ROUND, ODD)), (0, 2, 1))
        self.assertEqual(join(TRIANGLE, (ODD, ROUND)), (2, 1, 0))

    def test_join_of_no_turns(self):
        self.assertEqual(join(TRIANGLE, ()), STILL)
        self.assertEqual(join(((1, 0),), ()), (0, 1))

    def test_join_of_many_turns(self):
        self.assertEqual(join(TRIANGLE, (ROUND,) * 6001), ROUND)

    def test_undo(self):
        for lock in (TRIANGLE, SQUARE, FIVE):
            still = tuple(range(len(lock[0])))
            for turn in all_turns(lock):
                self.assertEqual(undo(lock, turn), undone(turn))
                self.assertEqual(join(lock, (turn, undo(lock, turn))), still)

    def test_rounds(self):
        self.assertEqual([rounds(TRIANGLE, turn) for turn in all_turns(TRIANGLE)],
                         [1, 2, 2, 3, 3, 2])
        both = LOCKS["two and three round"][0]
        self.assertEqual(rounds(both, both[0]), 6)
        for turn in all_turns(FIVE):
            many = rounds(FIVE, turn)
            still = tuple(range(5))
            powers = [join(FIVE, (turn,) * times) for times in range(1, many + 1)]
            self.assertEqual(powers.index(still), many - 1)

    def test_swapped(self):
        for lock in (TRIANGLE, SQUARE, FIVE):
            for one in all_turns(lock)[:12]:
                for other in all_turns(lock):
                    self.assertEqual(swapped(lock, one, other), commutator(one, other))

    def test_the_still_one(self):
        self.assertEqual(rounds(TRIANGLE, STILL), 1)
        self.assertEqual(undo(TRIANGLE, STILL), STILL)
        self.assertEqual(word_for(TRIANGLE, STILL), ())
        self.assertEqual(word_for((STILL,), STILL), ())
        self.assertEqual(swapped(TRIANGLE, STILL, ROUND), STILL)
        self.assertIs(is_made(TRIANGLE, STILL), True)

    def test_word_for_is_the_least_of_the_shortest(self):
        locks = [lock for lock in small_locks() if len(closed(lock, len(lock[0]))) <= 12]
        locks += [((1, 0), (1, 0)), ((0, 1), (1, 0)), (ODD, ROUND), (STILL, ODD, ROUND, ODD),
                  ((0, 2, 1), (2, 1, 0), (1, 0, 2))]
        for lock in locks:
            wanted = set(all_turns(lock))
            long = 0
            while wanted:
                for word in itertools.product(range(len(lock)), repeat=long):
                    turn = join(lock, tuple(lock[place] for place in word))
                    if turn in wanted:
                        self.assertEqual(word_for(lock, turn), word)
                        wanted.remove(turn)
                long += 1

    def test_word_for_makes_the_turn(self):
        for name in ("five beside two", "seven lines", "twos"):
            lock = LOCKS[name][0]
            for turn in all_turns(lock)[::7]:
                self.assertEqual(join(lock, tuple(lock[place] for place in word_for(lock, turn))),
                                 turn)


class ManyArgumentsTest(unittest.TestCase):
    def test_arguments_are_not_changed(self):
        values = [[[1, 0]], {0: [1, 0]}, ([1, 0], {1: 0}), [(1, 0), (0, 1)]]
        for value in values:
            before = copy.deepcopy(value)
            for function, others in CALLS:
                with self.assertRaises(BadLock):
                    function(value, *others)
                if others:
                    with self.assertRaises(BadTurn):
                        function(TRIANGLE, value, *others[1:])
            self.assertEqual(value, before)

    def test_equal_arguments_have_equal_answers(self):
        again = tuple(tuple(list(given)) for given in TRIANGLE)
        for function, others in CALLS:
            self.assertEqual(function(TRIANGLE, *others), function(again, *others))

    def test_truths_are_no_integers_in_turns(self):
        lock = ((1, 0),)
        self.assertEqual(all_turns(lock), ((0, 1), (1, 0)))
        for turn in ((True, False), (1, False), (True, 0), (False, True), (0, True)):
            for function in (is_made, undo, rounds, word_for):
                with self.assertRaises(BadTurn):
                    function(lock, turn)
            with self.assertRaises(BadTurn):
                join(lock, (turn,))


if __name__ == "__main__":
    unittest.main()
