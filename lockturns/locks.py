"""Locks: their turns, and products of them."""

from lockturns.errors import BadLock, BadTurn, TooMany
from lockturns.perms import (
    MOST_TURNS, are_numbers, back_of, bracket_of, is_permutation, product_of, rounds_of,
    still_of, words_of)

MOST_GIVEN = 4
FEWEST_PLACES = 2
MOST_PLACES = 9


def all_turns(lock):
    """Return the ascending tuple of the turns of a lock."""
    return tuple(sorted(made_words(lock)))


def is_made(lock, turn):
    """Tell whether a permutation of as many places is a turn of the lock."""
    made = made_words(lock)
    if not is_permutation(turn, len(lock[0])):
        raise BadTurn()
    return turn in made


def join(lock, turns):
    """Return the product of a tuple of turns, the still one for none."""
    made = made_words(lock)
    if not are_turns(made, turns):
        raise BadTurn()
    reached = still_of(len(lock[0]))
    for turn in turns:
        reached = product_of(reached, turn)
    return reached


def undo(lock, turn):
    """Return the turn that undoes one."""
    check_turn(made_words(lock), turn)
    return back_of(turn)


def rounds(lock, turn):
    """Return how often a turn must be done, at least once, until nothing is moved."""
    check_turn(made_words(lock), turn)
    return rounds_of(turn)


def swapped(lock, one, other):
    """Return the commutator: one, other, one undone, other undone."""
    made = made_words(lock)
    check_turn(made, one)
    check_turn(made, other)
    return bracket_of(one, other)


def word_for(lock, turn):
    """Return the least of the shortest tuples of places whose given turns make a turn."""
    made = made_words(lock)
    check_turn(made, turn)
    return made[turn]


def check_lock(lock):
    """Raise BadLock for what is no lock."""
    if not isinstance(lock, tuple) or not 1 <= len(lock) <= MOST_GIVEN:
        raise BadLock(None)
    if not isinstance(lock[0], tuple) or not FEWEST_PLACES <= len(lock[0]) <= MOST_PLACES:
        raise BadLock(0)
    for place, given in enumerate(lock):
        if not is_permutation(given, len(lock[0])):
            raise BadLock(place)


def made_words(lock):
    """Return the dict from each turn of a lock to its word; raise what a lock may raise."""
    check_lock(lock)
    made = words_of(lock, len(lock[0]))
    if len(made) > MOST_TURNS:
        raise TooMany(MOST_TURNS)
    return made


def is_turn(made, value):
    """Tell whether a value, any one, is one of the turns that were made."""
    # Numbers come first: a list cannot be looked up, and True would be found as 1.
    return are_numbers(value) and value in made


def are_turns(made, value):
    """Tell whether a value, any one, is a tuple of turns that were made."""
    return isinstance(value, tuple) and all([is_turn(made, turn) for turn in value])


def check_turn(made, turn):
    """Raise BadTurn for what is none of the turns that were made."""
    if not is_turn(made, turn):
        raise BadTurn()
