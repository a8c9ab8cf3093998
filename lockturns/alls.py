"""Rows that write whether all inputs are yes."""

from lockturns.errors import NoWay
from lockturns.perms import back_of, bracket_of, product_of, still_of
from lockturns.series import is_dying, prime, ring
from lockturns.tasks import check_inputs
from lockturns.weights import chains, told_number


def most_all(lock):
    """Return of how many inputs at most all can be written, None for any number."""
    if not is_dying(lock):
        return None
    return told_number(lock)


def all_row(lock, inputs):
    """Return (row, turn) by which a lock writes whether all inputs are yes."""
    dying = is_dying(lock)
    check_inputs(inputs)
    if not dying:
        return ring_row(lock, inputs)
    if inputs > told_number(lock):
        raise NoWay()
    return chain_row(lock, inputs)


def ring_row(lock, inputs):
    """Return (row, turn): a commutator for each input, around and around a ring."""
    turn, others = ring(lock)
    turns = [turn] + [others[place % len(others)] for place in range(inputs - 1)]
    steps, reached = bracket_steps(turns, list(range(inputs)))
    return tuple(steps), reached


def chain_row(lock, inputs):
    """Return (row, turn): powers of the chains' commutators, as many as take all inputs.

    A commutator is done if the inputs of its given turns are yes. How often each one was
    done can be read off the product, so only all of them together lead to the turn.
    """
    base = prime(lock)
    row = []
    reached = still_of(len(lock[0]))
    taken = 0
    for givens, length in chains(lock):
        for _ in range(most_times(base, length)):
            if taken < inputs:
                # Where no inputs are left for the last given turns, the last one does again.
                owns = [min(taken + place, inputs - 1) for place in range(len(givens))]
                steps, turn = bracket_steps(givens, owns)
                row.extend(steps)
                reached = product_of(reached, turn)
                taken += len(givens)
    return tuple(row), reached


def most_times(base, length):
    """Return how often a chain's commutator may be done: base to the length, less 1."""
    many = 1
    for _ in range(length):
        many *= base
    return many - 1


def bracket_steps(turns, owns):
    """Return (steps, commutator) of turns: steps that make it if their inputs are all yes.

    If an input is no, they make the still turn: a commutator with it is still.
    """
    still = still_of(len(turns[0]))
    steps = [(owns[0], still, turns[0])]
    reached = turns[0]
    for turn, own in zip(turns[1:], owns[1:]):
        back = [(own, still, back_of(turn))]
        steps = steps + [(own, still, turn)] + undone_steps(steps) + back
        reached = bracket_of(reached, turn)
    return steps, reached


def undone_steps(steps):
    """Return the steps that undo others, whatever the inputs are."""
    return [(own, back_of(no), back_of(yes)) for own, no, yes in reversed(steps)]
