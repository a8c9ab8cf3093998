"""The series of commutators of a lock, and rings of them."""

from lockturns.locks import all_turns, are_turns, is_turn, made_words
from lockturns.perms import bracket_of, group_of, still_of


def lower(lock):
    """Return the terms of the lower central series of a lock."""
    terms = [all_turns(lock)]
    while True:
        # The given turns stand for any turn here; why they may, brackets_made says.
        _, term = brackets_made(terms[-1], lock)
        if len(term) == len(terms[-1]):
            return tuple(terms)
        terms.append(term)


def derived(lock):
    """Return the terms of the derived series of a lock."""
    terms = [all_turns(lock)]
    makers = lock
    while True:
        makers, term = brackets_made(terms[-1], makers)
        if len(term) == len(terms[-1]):
            return tuple(terms)
        terms.append(term)


def center(lock):
    """Return the ascending tuple of the turns that stand in any order with any turn."""
    turns = all_turns(lock)
    return tuple(led_into(lock, turns, {still_of(len(lock[0])): True}))


def is_dying(lock):
    """Tell whether a lock is nilpotent."""
    return len(lower(lock)[-1]) == 1


def is_solved(lock):
    """Tell whether a lock is solvable."""
    return len(derived(lock)[-1]) == 1


def prime(lock):
    """Return the prime of whose power the number of turns is, None if there is none."""
    many = len(all_turns(lock))
    for part in range(2, many + 1):
        if many % part == 0:
            # The least part above 1 is a prime, and must be the only one.
            while many % part == 0:
                many //= part
            return part if many == 1 else None
    return None


def ring(lock):
    """Return (turn, turns), commutators that lead a turn back to it; None without any."""
    turns = all_turns(lock)
    fading = fading_turns(lock, turns)
    lasting = [turn for turn in turns if turn not in fading]
    if not lasting:
        return None
    turn = lasting[0]
    passed = []
    others = []
    while turn not in passed:
        # There is one: were all of these fading, the turn would be fading too.
        other = [given for given in lock if bracket_of(turn, given) not in fading][0]
        passed.append(turn)
        others.append(other)
        turn = bracket_of(turn, other)
    return turn, tuple(others[passed.index(turn):])


def shows_ring(lock, value):
    """Tell whether a value, any one, is a ring of the lock."""
    made = made_words(lock)
    if not isinstance(value, tuple) or len(value) != 2:
        return False
    turn, others = value
    if not is_turn(made, turn) or not are_turns(made, others):
        return False
    if turn == still_of(len(lock[0])) or len(others) == 0:
        return False
    reached = turn
    for other in others:
        reached = bracket_of(reached, other)
    return reached == turn


def brackets_made(term, makers):
    """Return (few, turns): what commutators of a term's turns and any turns make.

    The makers make those any turns, within which the term is normal. Let K be what the
    commutators with makers alone make. By [ab, m] = a[b, m]a' [a, m], with a' undoing a,
    K is normal in the term; as K lies in the term and [k, m] in K for each k of K, the
    makers keep K too. Behind K each maker stands in any order with the term, and so do
    all turns: the commutators with other turns lie in K, and need not be worked out.
    """
    brackets = [bracket_of(turn, maker) for turn in term for maker in makers]
    return group_of(brackets, len(term[0]))


def led_into(lock, turns, aims):
    """Return, of a lock's turns, those all whose commutators are among the aims.

    The aims are normal among the turns, so the commutators with given turns tell it.
    """
    return [turn for turn in turns if all([bracket_of(turn, given) in aims for given in lock])]


def fading_turns(lock, turns):
    """Return a dict of the turns from which long rows of commutators all end still.

    It is the last term of the upper central series, all turns exactly if the lock is
    nilpotent.
    """
    fading = {still_of(len(lock[0])): True}
    while True:
        more = {turn: True for turn in led_into(lock, turns, fading)}
        if len(more) == len(fading):
            return fading
        fading = more
