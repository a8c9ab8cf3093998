"""Points 1, 4 and 5: series of commutators, and rings."""

import copy
import unittest

from lockturns.errors import BadLock, TooMany
from lockturns.locks import all_turns
from lockturns.series import (
    center, derived, is_dying, is_solved, lower, prime, ring, shows_ring)
from samples import (
    FIVE, LOCKS, SQUARE, STRANGE, TOO_LONG, TRIANGLE, closed, commutator, falling, small_locks,
    then)

ALONE = (lower, derived, center, is_dying, is_solved, prime, ring)


def is_ring(turns, value):
    """The document's words for a ring, for a value of the right kinds."""
    turn, others = value
    reached = turn
    for other in others:
        reached = commutator(reached, other)
    still = tuple(range(len(turn)))
    return (turn in turns and turn != still and len(others) > 0
            and all(other in turns for other in others) and reached == turn)


class SeriesTest(unittest.TestCase):
    def test_example(self):
        self.assertEqual(
            [[len(term) for term in lower(SQUARE)], center(SQUARE), is_dying(SQUARE),
             prime(SQUARE), [len(term) for term in derived(TRIANGLE)], is_solved(FIVE)],
            [[8, 2, 1], ((0, 1, 2, 3), (2, 3, 0, 1)), True, 2, [6, 3, 1], False])

    def check_by_definition(self, lock):
        turns = closed(lock, len(lock[0]))
        self.assertEqual(lower(lock), falling(turns, lambda term: turns))
        self.assertEqual(derived(lock), falling(turns, lambda term: term))
        self.assertEqual(center(lock), tuple(sorted(
            [turn for turn in turns
             if all(then(turn, other) == then(other, turn) for other in turns)])))

    def test_small_locks_by_definition(self):
        for lock in small_locks():
            # Locks of the same turns too: which of them are given must make no difference.
            self.check_by_definition(lock)

    def test_samples_by_definition(self):
        for name, row in LOCKS.items():
            with self.subTest(name=name):
                self.check_by_definition(row[0])

    def test_kinds_of_locks(self):
        for name, (lock, _, dying, solved, only) in LOCKS.items():
            with self.subTest(name=name):
                self.assertIs(is_dying(lock), dying)
                self.assertIs(is_solved(lock), solved)
                self.assertEqual(prime(lock), only)

    def test_terms_are_ascending_tuples(self):
        for series in (lower, derived):
            for lock in (SQUARE, TRIANGLE, FIVE):
                terms = series(lock)
                self.assertIsInstance(terms, tuple)
                self.assertEqual(terms[0], all_turns(lock))
                for term in terms:
                    self.assertIsInstance(term, tuple)
                    self.assertEqual(list(term), sorted(term))

    def test_long_series(self):
        lengths = {
            "octagon": ([16, 4, 2, 1], [16, 4, 1], 2),
            "four": ([24, 12], [24, 12, 4, 1], 1),
            "even five": ([60], [60], 1),
            "five beside two": ([240, 60], [240, 60], 2),
            "even five beside two and two": ([240, 60], [240, 60], 4),
            "quaternions": ([8, 2, 1], [8, 2, 1], 2),
            "two squares over two": ([128, 16, 4, 2, 1], [128, 16, 2, 1], 2),
        }
        for name, (falls, splits, middle) in lengths.items():
            lock = LOCKS[name][0]
            self.assertEqual([len(term) for term in lower(lock)], falls, name)
            self.assertEqual([len(term) for term in derived(lock)], splits, name)
            self.assertEqual(len(center(lock)), middle, name)

    def test_the_still_one_alone(self):
        lock = ((0, 1, 2), (0, 1, 2))
        self.assertEqual(lower(lock), (((0, 1, 2),),))
        self.assertEqual(derived(lock), (((0, 1, 2),),))
        self.assertEqual(center(lock), ((0, 1, 2),))
        self.assertIs(is_dying(lock), True)
        self.assertIs(is_solved(lock), True)
        self.assertIsNone(prime(lock))
        self.assertIsNone(ring(lock))

    def test_one_round_turn(self):
        lock = ((1, 2, 3, 0),)
        self.assertEqual(lower(lock), (all_turns(lock), ((0, 1, 2, 3),)))
        self.assertEqual(derived(lock), lower(lock))
        self.assertEqual(center(lock), all_turns(lock))

    def test_prime(self):
        primes = [prime((tuple(list(range(1, size)) + [0]),)) for size in range(2, 10)]
        self.assertEqual(primes, [2, 3, 2, 5, None, 7, 2, 3])


class RingTest(unittest.TestCase):
    def test_none_exactly_for_nilpotent_locks(self):
        for name, (lock, _, dying, _, _) in LOCKS.items():
            with self.subTest(name=name):
                self.check_ring(lock, dying)

    def test_small_locks(self):
        for lock in small_locks():
            turns = closed(lock, len(lock[0]))
            self.check_ring(lock, len(falling(turns, lambda term: turns)[-1]) == 1)

    def check_ring(self, lock, dying):
        found = ring(lock)
        if dying:
            self.assertIsNone(found)
            return
        self.assertIsInstance(found, tuple)
        turn, others = found
        self.assertIsInstance(others, tuple)
        self.assertTrue(is_ring(all_turns(lock), found))
        self.assertIs(shows_ring(lock, found), True)
        self.assertEqual(ring(lock), found)

    def test_all_short_values(self):
        for lock in (TRIANGLE, SQUARE, LOCKS["even four"][0]):
            turns = all_turns(lock)
            right = 0
            for turn in turns:
                self.assertIs(shows_ring(lock, (turn, ())), False)
                for one in turns:
                    self.assertIs(shows_ring(lock, (turn, (one,))),
                                  is_ring(turns, (turn, (one,))))
                    for other in turns:
                        value = (turn, (one, other))
                        self.assertIs(shows_ring(lock, value), is_ring(turns, value))
                        right += is_ring(turns, value)
            self.assertEqual(right > 0, lock != SQUARE)

    def test_bent_rings(self):
        still = (0, 1, 2)
        turn, others = (1, 2, 0), ((1, 0, 2), (1, 0, 2))
        self.assertIs(shows_ring(TRIANGLE, (turn, others)), True)
        bent = (
            (turn, ()), (turn, (still,)), (still, (still,)), (still, others), (still, ()),
            (turn, others + (still,)), (turn, others[0]), (turn, list(others)),
            (list(turn), others), [turn, others], (turn,), (turn, others, others), (),
            (turn, others, ()), (others, turn), (turn, (others,)), (turn, turn), (turn, None),
            (None, others), (turn, (None,)), (turn, ((1, 0, 2), None)), (turn, ([1, 0, 2],) * 2),
            ((1, 2, False), others), ((True, 2, 0), others), (turn, ((True, 0, 2),) * 2),
            (turn, ((1, False, 2),) * 2), ((1, 2, 0, 3), ((1, 0, 2, 3),) * 2),
            (turn, ((1, 0, 2, 3),) * 2), ((1, 2), others), (turn, ((1, 0), (1, 0))),
            (turn, ((1, 1, 2),) * 2), (turn, {0: (1, 0, 2)}), {turn: others}, (turn, "ab"),
            ("ab", others), (turn, ((1, 2, 0),)), ((1, 0, 2), others), (turn, 2), (turn, True),
        )
        for value in bent:
            with self.subTest(value=value):
                self.assertIs(shows_ring(TRIANGLE, value), False)

    def test_turns_that_are_none_of_the_lock(self):
        five = LOCKS["five"][0]
        odd = ((1, 0, 2, 3, 4),) * 2
        value = ((1, 2, 0, 3, 4), odd)
        self.assertIs(shows_ring(five, value), True)
        self.assertIs(shows_ring(FIVE, value), False)
        value = ((1, 2, 0, 3), ((1, 0, 2, 3),) * 2)
        self.assertIs(shows_ring(LOCKS["four"][0], value), True)
        self.assertIs(shows_ring(LOCKS["even four"][0], value), False)
        self.assertIs(shows_ring(SQUARE, value), False)

    def test_strange_values(self):
        for lock in (TRIANGLE, SQUARE, ((1, 0),)):
            for value in STRANGE:
                with self.subTest(lock=lock, value=value):
                    before = copy.deepcopy(value)
                    self.assertIs(shows_ring(lock, value), False)
                    self.assertIs(shows_ring(lock, ((1, 2, 0), value)), False)
                    self.assertIs(shows_ring(lock, (value, ((1, 0, 2),))), False)
                    self.assertEqual(value, before)

    def test_a_ring_done_more_often_is_one(self):
        for name in ("triangle", "even five", "five beside two"):
            lock = LOCKS[name][0]
            turn, others = ring(lock)
            self.assertIs(shows_ring(lock, (turn, others * 50)), True)


class WrongLocksTest(unittest.TestCase):
    def test_bad_locks(self):
        for lock, place in (((), None), (((1, 0),) * 5, None), (((1, 0), (0, 0)), 1),
                            (((0,),), 0), ((tuple(range(10)),), 0), (((1, 0), (1, True)), 1)):
            for function in ALONE:
                with self.assertRaises(BadLock) as caught:
                    function(lock)
                self.assertEqual(caught.exception.place, place)
            with self.assertRaises(BadLock) as caught:
                shows_ring(lock, None)
            self.assertEqual(caught.exception.place, place)

    def test_strange_locks(self):
        for value in STRANGE:
            for function in ALONE:
                with self.subTest(function=function.__name__, value=value):
                    with self.assertRaises(BadLock):
                        function(value)
            with self.assertRaises(BadLock):
                shows_ring(value, ((1, 2, 0), ((1, 0, 2),)))

    def test_too_many_turns(self):
        for lock in TOO_LONG:
            for function in ALONE:
                with self.subTest(function=function.__name__, lock=lock):
                    with self.assertRaises(TooMany) as caught:
                        function(lock)
                    self.assertEqual(caught.exception.most, 240)
            with self.assertRaises(TooMany):
                shows_ring(lock, None)


if __name__ == "__main__":
    unittest.main()
