"""Locks of a prime's power: the terms by weight, the told number, and chains."""

from lockturns.errors import NotPrime
from lockturns.perms import bracket_of, group_of, power_of
from lockturns.series import lower, prime


def weighed(lock):
    """Return the terms D(1), D(2) and so on, as long as they have more than one turn."""
    base = own_prime(lock)
    terms = lower(lock)
    found = []
    term = weighed_term(base, terms, 1)
    while len(term) > 1:
        found.append(term)
        term = weighed_term(base, terms, len(found) + 1)
    return tuple(found)


def told_number(lock):
    """Return the prime less 1, times the sum of n times e(n)."""
    base = own_prime(lock)
    # The exponent of D(n) is e(n) and all behind it: in the sum each e(n) counts n times.
    return (base - 1) * sum([exponent_of(base, len(term)) for term in weighed(lock)])


def exponents(lock):
    """Return the tuple of e(1), e(2) and so on, as many as there are terms by weight."""
    base = own_prime(lock)
    reached = [exponent_of(base, len(term)) for term in weighed(lock)] + [0]
    return tuple([one - other for one, other in zip(reached, reached[1:])])


def chains(lock):
    """Return the pairs (given turns, length) whose commutators' powers make each turn once.

    With c a commutator of as many given turns as its weight, c to the power p ** j is one
    of the turns of D(n), n being the weight times p ** j. The chains are such that for each
    n these powers are a basis of D(n) over D(n + 1). Products of powers are then told apart
    n by n, in whatever order they stand, as D(n) stands in any order behind D(n + 1).
    """
    base = own_prime(lock)
    terms = lower(lock)
    level = [((given,), given) for given in lock]
    found = []
    while level:
        kept = longest_first(base, terms, level)
        found.extend([(givens, length) for givens, _, length in kept])
        # These make what their level does, so their commutators make all of the next one.
        level = [(givens + (given,), bracket_of(turn, given))
                 for givens, turn, _ in kept for given in lock]
    return tuple(found)


def own_prime(lock):
    """Return the prime of a lock; raise NotPrime if there is none."""
    base = prime(lock)
    if base is None:
        raise NotPrime()
    return base


def exponent_of(base, many):
    """Return to what power a prime is a number of turns."""
    exponent = 0
    while many > 1:
        many //= base
        exponent += 1
    return exponent


def weighed_term(base, terms, weight):
    """Return the ascending tuple of the turns of D(weight)."""
    return made_by(weighed_makers(base, terms, weight))[1]


def weighed_makers(base, terms, weight):
    """Return turns that make D(weight), the terms being those of lower."""
    makers = []
    power = 1
    # By greater powers come only powers of what the last one here gives.
    while power < base * weight:
        makers.extend(powers_in(terms, weight, power))
        power *= base
    return makers


def powers_in(terms, weight, power):
    """Return, to a power, the turns of the first term that gains so much weight by it."""
    # The later terms' turns are among those of this one.
    place = (weight + power - 1) // power
    return [power_of(turn, power) for turn in terms[min(place, len(terms)) - 1]]


def made_by(makers):
    """Return (few, turns): the makers that are enough, and the ascending tuple they make."""
    return group_of(makers, len(makers[0]))


def longest_first(base, terms, level):
    """Return (given turns, commutator, length) for those of a level that are kept.

    The level's pairs (given turns, commutator) are all of one weight. For each j, with n
    the weight times p ** j, those with a length above j must to the power p ** j be a basis
    of what the level gives to D(n) beyond D(n + 1) and lesser powers of longer commutators.
    Commutators that are independent for one j are so for each lesser one, as raising to p
    leads from there to here: so the longest chains are chosen first, and for each lesser
    length those are added that are lacking.
    """
    weight = len(level[0][0])
    powers = [1]
    while len(weighed_term(base, terms, weight * powers[-1] * base)) > 1:
        powers.append(powers[-1] * base)
    kept = []
    for length in range(len(powers), 0, -1):
        power = powers[length - 1]
        makers = weighed_makers(base, terms, weight * power + 1)
        for less in powers[:length - 1]:
            makers.extend(powers_in(terms, weight * power, less))
        makers.extend([power_of(turn, power) for _, turn, _ in kept])
        makers, known = made_by(makers)
        for givens, turn in level:
            raised = power_of(turn, power)
            if raised not in known:
                kept.append((givens, turn, length))
                makers, known = made_by(makers + [raised])
    return kept
