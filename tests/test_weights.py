"""Points 1, 9 and 10: the terms by weight, the told number, and chains."""

import copy
import unittest

from lockturns.errors import BadLock, NotPrime, TooMany
from lockturns.locks import all_turns
from lockturns.weights import chains, told_number, weighed
from samples import (
    LOCKS, SQUARE, STILL_LOCK, STRANGE, TOO_LONG, closed, commutator, drawn_prime_locks,
    falling, power, then)

ALONE = (weighed, told_number, chains)

PRIME_LOCKS = [(row[0], row[4]) for row in LOCKS.values() if row[4] is not None]
PRIME_LOCKS += [
    # Given turns that are needless, still, doubled, or badly chosen for chains.
    (((1, 0), (0, 1)), 2),
    (((0, 1), (1, 0), (1, 0), (0, 1)), 2),
    (((2, 3, 0, 1), (1, 2, 3, 0)), 2),
    (((1, 2, 3, 0), (3, 0, 1, 2), (2, 3, 0, 1)), 2),
    (((1, 2, 3, 0, 4, 5), (1, 2, 3, 0, 5, 4)), 2),
    (((0, 1, 2, 3, 5, 4), (1, 2, 3, 0, 5, 4)), 2),
    (((1, 2, 3, 0, 5, 6, 7, 4), (1, 2, 3, 0, 4, 5, 6, 7)), 2),
    (((2, 3, 4, 5, 6, 7, 0, 1), (1, 2, 3, 4, 5, 6, 7, 0)), 2),
    (((1, 0, 3, 2, 4, 5), (1, 0, 2, 3, 5, 4), (0, 1, 3, 2, 5, 4)), 2),
    (((3, 4, 5, 6, 7, 8, 0, 1, 2), (1, 2, 3, 4, 5, 6, 7, 8, 0)), 3),
    (((1, 2, 0, 3, 4, 5, 6, 7, 8), (1, 2, 0, 4, 5, 3, 6, 7, 8), (1, 2, 0, 4, 5, 3, 7, 8, 6)), 3),
    (((1, 2, 0, 4, 5, 3, 7, 8, 6), (3, 4, 5, 6, 7, 8, 1, 2, 0)), 3),
    (((1, 2, 0, 4, 5, 3, 6, 7, 8), (3, 4, 5, 6, 7, 8, 0, 1, 2)), 3),
    (((3, 2, 1, 0), (1, 0, 3, 2), (3, 2, 1, 0)), 2),
    (((0, 2, 1, 3), (3, 2, 1, 0), (1, 3, 0, 2), (3, 1, 2, 0)), 2),
]


def weighed_by_definition(lock, prime):
    turns = closed(lock, len(lock[0]))
    still = tuple(range(len(lock[0])))
    lower = falling(turns, lambda term: turns)
    terms = []
    while True:
        weight = len(terms) + 1
        makers = set()
        for i in range(1, len(lower) + 1):
            raised = set(lower[i - 1])
            # Behind 8 = 2 ** 3 or 9 = 3 ** 2 rounds each turn that stands here is still.
            for j in range(9):
                if i * prime ** j >= weight:
                    makers |= raised
                raised = {power(turn, prime) for turn in raised}
        term = tuple(sorted(closed(makers | {still}, len(still))))
        if len(term) == 1:
            return tuple(terms)
        terms.append(term)


def told_by_definition(terms, prime):
    sizes = [len(term) for term in terms] + [1]
    told = 0
    for n in range(1, len(sizes)):
        e = 0
        while prime ** e * sizes[n] < sizes[n - 1]:
            e += 1
        told += n * e
    return (prime - 1) * told


class WeighedTest(unittest.TestCase):
    def test_examples(self):
        self.assertEqual(
            [told_number(((1, 2, 3, 0),)), told_number(SQUARE),
             [len(term) for term in weighed(SQUARE)]], [3, 4, [8, 2]])
        with self.assertRaises(NotPrime):
            told_number(((1, 2, 0), (1, 0, 2)))

    def test_by_definition(self):
        for lock, prime in PRIME_LOCKS:
            with self.subTest(lock=lock):
                terms = weighed(lock)
                self.assertEqual(terms, weighed_by_definition(lock, prime))
                self.assertEqual(terms[0], all_turns(lock))
                self.assertEqual(told_number(lock), told_by_definition(terms, prime))

    def test_drawn_locks_by_definition(self):
        for lock in drawn_prime_locks(12, 30):
            prime = 2 if len(lock[0]) == 8 else 3
            with self.subTest(lock=lock):
                terms = weighed(lock)
                self.assertEqual(terms, weighed_by_definition(lock, prime))
                self.assertEqual(told_number(lock), told_by_definition(terms, prime))

    def test_lengths_of_terms(self):
        for name, lengths, told in (
                ("two places", [2], 1), ("three round", [3], 2), ("four round", [4, 2], 3),
                ("five round", [5], 4), ("seven round", [7], 6),
                ("eight round", [8, 4, 2, 2], 7), ("nine round", [9, 3, 3], 8),
                ("square", [8, 2], 4), ("quaternions", [8, 2], 4), ("twos", [16], 4),
                ("octagon", [16, 4, 2, 2], 8), ("threes over three", [81, 9, 3], 14),
                ("two squares over two", [128, 16, 4, 2], 14)):
            lock = LOCKS[name][0]
            self.assertEqual([len(term) for term in weighed(lock)], lengths, name)
            self.assertEqual(told_number(lock), told, name)

    def test_terms_are_ascending_tuples(self):
        for lock, _ in PRIME_LOCKS:
            terms = weighed(lock)
            self.assertIsInstance(terms, tuple)
            for term in terms:
                self.assertIsInstance(term, tuple)
                self.assertEqual(list(term), sorted(term))

    def test_a_told_number_does_not_depend_on_what_is_given(self):
        square = all_turns(SQUARE)
        for one in square:
            for other in square:
                if len(all_turns((one, other))) == 8:
                    self.assertEqual(told_number((one, other)), 4)


class ChainsTest(unittest.TestCase):
    def check_chains(self, lock, prime):
        """All that point 10 says of chains."""
        found = chains(lock)
        self.assertIsInstance(found, tuple)
        products = [tuple(range(len(lock[0])))]
        told = 0
        for pair in found:
            self.assertIsInstance(pair, tuple)
            givens, length = pair
            self.assertIsInstance(givens, tuple)
            self.assertGreaterEqual(len(givens), 1)
            self.assertTrue(all(given in lock for given in givens))
            self.assertIs(type(length), int)
            self.assertGreaterEqual(length, 1)
            reached = givens[0]
            for given in givens[1:]:
                reached = commutator(reached, given)
            powers = [power(reached, many) for many in range(prime ** length)]
            products = [then(one, other) for one in products for other in powers]
            told += len(givens) * (prime ** length - 1)
        self.assertEqual(sorted(products), list(all_turns(lock)))
        self.assertEqual(told, told_number(lock))
        self.assertEqual(chains(lock), found)
        return found

    def test_each_turn_is_made_in_just_one_way(self):
        for lock, prime in PRIME_LOCKS:
            with self.subTest(lock=lock):
                self.check_chains(lock, prime)

    def test_drawn_locks(self):
        lengths = set()
        for lock in drawn_prime_locks(13, 250):
            with self.subTest(lock=lock):
                found = self.check_chains(lock, 2 if len(lock[0]) == 8 else 3)
                lengths |= {(len(givens), length) for givens, length in found}
        # Single ones and commutators, short and long ones were among them.
        self.assertTrue({(1, 1), (1, 2), (1, 3), (2, 1), (2, 2), (3, 1), (4, 1)} <= lengths)

    def test_every_pair_of_turns_of_a_square_and_of_quaternions(self):
        for name in ("square", "quaternions", "octagon"):
            turns = all_turns(LOCKS[name][0])
            for one in turns:
                for other in turns:
                    if one != turns[0] or other != turns[0]:
                        self.check_chains((one, other), 2)

    def test_cyclic_locks(self):
        for size, prime, length in ((2, 2, 1), (3, 3, 1), (4, 2, 2), (5, 5, 1), (7, 7, 1),
                                    (8, 2, 3), (9, 3, 2)):
            given = tuple(list(range(1, size)) + [0])
            self.assertEqual(chains((given,)), (((given,), length),))
            self.assertEqual(told_number((given,)), prime ** length - 1)

    def test_a_commutator_that_a_power_reaches_already(self):
        # Of the square's turns the commutator is a square too, but counts only once.
        for lock in (SQUARE, SQUARE[::-1], LOCKS["quaternions"][0]):
            self.assertEqual(sorted((len(givens), length) for givens, length in chains(lock)),
                             [(1, 1), (1, 1), (2, 1)])


class WrongLocksTest(unittest.TestCase):
    def test_locks_without_a_prime(self):
        for name, row in LOCKS.items():
            for function in ALONE:
                if row[4] is None:
                    with self.subTest(name=name), self.assertRaises(NotPrime):
                        function(row[0])
        for lock in (STILL_LOCK, ((0, 1),), ((0, 1), (0, 1)), (tuple(range(9)),) * 4):
            for function in ALONE:
                with self.assertRaises(NotPrime):
                    function(lock)

    def test_no_locks(self):
        for lock in STRANGE + ((), ((1, 0),) * 5, ((1, 0), (0, 0))):
            before = copy.deepcopy(lock)
            for function in ALONE:
                with self.subTest(lock=lock), self.assertRaises(BadLock):
                    function(lock)
            self.assertEqual(lock, before)

    def test_too_many_turns(self):
        for lock in TOO_LONG:
            for function in ALONE:
                with self.assertRaises(TooMany) as caught:
                    function(lock)
                self.assertEqual(caught.exception.most, 240)


if __name__ == "__main__":
    unittest.main()
